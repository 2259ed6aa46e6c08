/- Contracts: how many bits (the library's OnesCount32); areFree. -/
import Derived.Test.YtgfegolignhefaaRtC
import Derived.Laws.BitsAllLaws
import Derived.Lib.BitFns
namespace Go.Proofs.Ytgfegolignhefaa
open Go.RowKit
set_option linter.unusedVariables false
set_option linter.unusedSimpArgs false

def fre (f : Nat → Ky) (x : Int) (n : Nat) : Bool := decide (n = 0) || (decide (1 ≤ x) && (decide (x ≤ 32768 - (n : Int)) && !nmd f 21 x (x + (n : Int))))
theorem frk_fre (f : Nat → Ky) (r : Nat) (x : Int) : frk f r x = fre f x (cu r 21) := rfl
set_option maxRecDepth 100000 in
set_option maxHeartbeats 1000000 in
theorem areFree_any (f : Nat → Ky) (x : Int) (n : Nat) (hn : n ≤ 21) (w : World) :
    Calls Try.prog 24 #[.agg (kcs f), .int .i64 x, .int .i64 (n : Int)] w fun e w' => e = .returned (.bool (fre f x n)) ∧ Below w.heap.size w w' := by
  have HFR : Hid (fre f x n = (decide (n = 0) || (decide (1 ≤ x) && (decide (x ≤ 32768 - (n : Int)) && !nmd f 21 x (x + (n : Int)))))) := rfl
  have hR := KsAt.new w f
  have hB1 := alloc_ks w f
  go_enter Try.func24, Try.ntmps24
  go_upto_region 1 with (fail)
  generalize w.alloc (.cells (kcs f) 25) = w1 at *
  obtain ⟨c, hc⟩ : ∃ c, kcs f = c := ⟨_, rfl⟩
  rw [hc]
  clear hc
  by_cases hn0 : n = 0
  · subst hn0
    go_wp2_with fail
    go_ret
    exact ⟨ret_bool (by rw [HFR.out]; rfl), hB1⟩
  · have h0 : ¬ ((n : Int) = 0) := by omega
    have h0' : ((n : Int) == 0) = false := by simp; omega
    have HD : Hid (decide (n = 0) = false) := decide_eq_false hn0
    have hsub : IntKind.i64.wrap (32768 - (n : Int)) = 32768 - (n : Int) := i64_fit _ (by omega) (by omega)
    by_cases h1 : x < 1
    · have HD1 : Hid (decide (1 ≤ x) = false) := decide_eq_false (by omega)
      go_wp2_with fail
      go_ret
      exact ⟨ret_bool (by rw [HFR.out, HD.out, HD1.out]; rfl), hB1⟩
    · have HD1 : Hid (decide (1 ≤ x) = true) := decide_eq_true (by omega)
      by_cases h2 : 32768 - (n : Int) < x
      · have HD2 : Hid (decide (x ≤ 32768 - (n : Int)) = false) := decide_eq_false (by omega)
        go_wp2_with fail
        go_ret
        exact ⟨ret_bool (by rw [HFR.out, HD.out, HD1.out, HD2.out]; rfl), hB1⟩
      · have HD2 : Hid (decide (x ≤ 32768 - (n : Int)) = true) := decide_eq_true (by omega)
        have hsum : IntKind.i64.wrap (x + (n : Int)) = x + (n : Int) := i64_fit _ (by omega) (by omega)
        have hnm := named_any (B := w.heap.size) (f := f) 21 21 (by omega) x (x + (n : Int)) w1 hR
        go_wp2_with (go_at_call 22; refine hnm.mono ?_; rintro e w2 ⟨rfl, hb2⟩)
        go_ret
        exact ⟨ret_bool (by rw [HFR.out, HD.out, HD1.out, HD2.out]; rfl), hB1.trans (hb2.mono hB1.size)⟩
theorem pop_cu : ∀ n : Fin 256, Lib.pop8 (n.val : Int) = ((cu n.val 8 : Nat) : Int) := by decide +kernel
theorem pop_at (n : Nat) (h : n < 256) : Lib.pop8 (n : Int) = ((cu n 8 : Nat) : Int) := pop_cu ⟨n, h⟩
theorem cu_congr {r s : Nat} : ∀ {k : Nat}, (∀ i, i < k → r.testBit i = s.testBit i) → cu r k = cu s k
  | 0, _ => rfl
  | k + 1, h => by
    simp only [cu]
    rw [cu_congr fun i hi => h i (by omega)]
    unfold b1
    rw [h k (by omega)]
theorem cu_add (r a : Nat) : ∀ b, cu r (a + b) = cu r a + cu (r / 2 ^ a) b
  | 0 => by simp [cu]
  | b + 1 => by
    rw [← Nat.add_assoc]
    simp only [cu]
    rw [cu_add r a b]
    have : b1 r (a + b) = b1 (r / 2 ^ a) b := by
      unfold b1
      rw [← Nat.shiftRight_eq_div_pow, Nat.testBit_shiftRight]
    omega
theorem cu_mod8 (r : Nat) : cu (r % 256) 8 = cu r 8 := cu_congr fun i hi => by
  rw [show 256 = 2 ^ 8 by decide, Nat.testBit_mod_two_pow]
  simp [hi]
theorem cu_parts (r : Nat) (hr : r < 2097152) : cu r 21 = cu (r / 65536) 8 + cu (r / 256 % 256) 8 + cu (r % 256) 8 := by
  rw [show 21 = 8 + 13 by decide, cu_add, show 13 = 8 + 5 by decide, cu_add, cu_mod8, cu_mod8]
  have e1 : r / 2 ^ 8 / 2 ^ 8 = r / 65536 := by omega
  rw [e1, show 2 ^ 8 = 256 by decide]
  have e2 : cu (r / 65536) 8 = cu (r / 65536) 5 := by
    rw [show 8 = 5 + 3 by decide, cu_add, show r / 65536 / 2 ^ 5 = 0 by omega, cu_none (r := 0) fun i _ => by simp]
    rfl
  omega
theorem and255 (v : Int) (h0 : 0 ≤ v) (h1 : v < 4294967296) : bits .and .u32 v 255 = v % 256 := by
  rw [u32_and _ _ (by omega) (by omega) (by omega) (by omega)]
  have : v.toNat &&& (255 : Int).toNat = v.toNat % 256 := Nat.and_two_pow_sub_one_eq_mod v.toNat 8
  rw [this]; omega
set_option maxRecDepth 100000 in
set_option maxHeartbeats 1000000 in
theorem ones_any (r : Nat) (hr : r < 2097152) (w : World) :
    Calls Try.prog 25 #[.int .u32 (r : Int)] w fun e w' => e = .returned (.int .i64 ((cu r 21 : Nat) : Int)) ∧ Below w.heap.size w w' := by
  have hc := cu_parts r hr
  have p1 := pop_at (r / 65536) (by omega)
  have p2 := pop_at (r / 256 % 256) (by omega)
  have p3 := pop_at (r % 256) (by omega)
  have p0 : Lib.pop8 0 = 0 := by decide +kernel
  have l1 := cu_le (r / 65536) 8
  have l2 := cu_le (r / 256 % 256) 8
  have l3 := cu_le (r % 256) 8
  have s0 : (r : Int) / 16777216 = 0 := by omega
  have a1 : bits .and .u32 ((r : Int) / 65536) 255 = ((r / 65536 : Nat) : Int) := by rw [and255 _ (by omega) (by omega)]; omega
  have a2 : bits .and .u32 ((r : Int) / 256) 255 = ((r / 256 % 256 : Nat) : Int) := by rw [and255 _ (by omega) (by omega)]; omega
  have a3 : bits .and .u32 (r : Int) 255 = ((r % 256 : Nat) : Int) := by rw [and255 _ (by omega) (by omega)]; omega
  have b1 : r / 65536 < 256 := by omega
  have b2 : r / 256 % 256 < 256 := by omega
  have b3 : r % 256 < 256 := by omega
  generalize r / 65536 = x1 at *
  generalize r / 256 % 256 = x2 at *
  generalize r % 256 = x3 at *
  obtain ⟨q1, h1⟩ : ∃ q, cu x1 8 = q := ⟨_, rfl⟩
  obtain ⟨q2, h2⟩ : ∃ q, cu x2 8 = q := ⟨_, rfl⟩
  obtain ⟨q3, h3⟩ : ∃ q, cu x3 8 = q := ⟨_, rfl⟩
  rw [h1] at hc p1 l1
  rw [h2] at hc p2 l2
  rw [h3] at hc p3 l3
  rw [hc]
  clear h1 h2 h3 hc hr
  have c1 : (x1 : Int) ≤ 255 := by omega
  have c2 : (x2 : Int) ≤ 255 := by omega
  have c3 : (x3 : Int) ≤ 255 := by omega
  go_enter Try.func25, Try.ntmps25
  go_upto_region 1 with (fail)
  go_quiet (fail)
  go_wp2_with fail
  go_ret
  exact ⟨ret_int (by omega), dn_below _ _⟩
end Go.Proofs.Ytgfegolignhefaa
