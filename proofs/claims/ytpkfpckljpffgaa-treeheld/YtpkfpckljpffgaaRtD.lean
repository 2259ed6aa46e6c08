/- Contracts: how many bits (the library's OnesCount32); areFree. -/
import Derived.Test.YtpkfpckljpffgaaRtC
import Derived.Laws.BitsAllLaws
import Derived.Lib.BitFns
namespace Go.Proofs.Ytpkfpckljpffgaa.Rt
open Go.RowKit
set_option linter.unusedVariables false
set_option linter.unusedSimpArgs false

def fre (f : Nat → Ky) (x : Int) (n : Nat) : Bool := decide (n = 0) || (decide (1 ≤ x) && (decide (x ≤ 32768 - (n : Int)) && !nmd f 21 x (x + (n : Int))))
theorem frk_fre (f : Nat → Ky) (r : Nat) (x : Int) : frk f r x = fre f x (cu r 21) := rfl
theorem pop_cu : ∀ n : Fin 256, Lib.pop8 (n.val : Int) = ((cu n.val 8 : Nat) : Int) := by decide +kernel
theorem pop_at (n : Nat) (h : n < 256) : Lib.pop8 (n : Int) = ((cu n 8 : Nat) : Int) := pop_cu ⟨n, h⟩
theorem cu_congr {r s : Nat} : ∀ {k : Nat}, (∀ i, i < k → r.testBit i = s.testBit i) → cu r k = cu s k
  | 0, _ => rfl
  | k + 1, h => by
    simp only [cu]
    rw [cu_congr fun i hi => h i (by omega)]
    unfold b1
    rw [h k (by omega)]
theorem cu_add (r a : Nat) : ∀ b, cu r (a + b) = cu r a + cu (r / 2 ^ a) b
  | 0 => by simp [cu]
  | b + 1 => by
    rw [← Nat.add_assoc]
    simp only [cu]
    rw [cu_add r a b]
    have : b1 r (a + b) = b1 (r / 2 ^ a) b := by
      unfold b1
      rw [← Nat.shiftRight_eq_div_pow, Nat.testBit_shiftRight]
    omega
theorem cu_mod8 (r : Nat) : cu (r % 256) 8 = cu r 8 := cu_congr fun i hi => by
  rw [show 256 = 2 ^ 8 by decide, Nat.testBit_mod_two_pow]
  simp [hi]
theorem cu_parts (r : Nat) (hr : r < 2097152) : cu r 21 = cu (r / 65536) 8 + cu (r / 256 % 256) 8 + cu (r % 256) 8 := by
  rw [show 21 = 8 + 13 by decide, cu_add, show 13 = 8 + 5 by decide, cu_add, cu_mod8, cu_mod8]
  have e1 : r / 2 ^ 8 / 2 ^ 8 = r / 65536 := by omega
  rw [e1, show 2 ^ 8 = 256 by decide]
  have e2 : cu (r / 65536) 8 = cu (r / 65536) 5 := by
    rw [show 8 = 5 + 3 by decide, cu_add, show r / 65536 / 2 ^ 5 = 0 by omega, cu_none (r := 0) fun i _ => by simp]
    rfl
  omega
theorem and255 (v : Int) (h0 : 0 ≤ v) (h1 : v < 4294967296) : bits .and .u32 v 255 = v % 256 := by
  rw [u32_and _ _ (by omega) (by omega) (by omega) (by omega)]
  have : v.toNat &&& (255 : Int).toNat = v.toNat % 256 := Nat.and_two_pow_sub_one_eq_mod v.toNat 8
  rw [this]; omega
end Go.Proofs.Ytpkfpckljpffgaa.Rt
