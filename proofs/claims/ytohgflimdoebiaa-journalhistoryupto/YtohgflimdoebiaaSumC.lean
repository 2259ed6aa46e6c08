/- Contracts of Unbytes (sum's and the document's), and of the fixed answers. -/
import Derived.Test.YtohgflimdoebiaaSumB
namespace Go.Proofs.Ytohgflimdoebiaa.Sm
open Go.RowKit Go.Maps
set_option linter.unusedVariables false

theorem str_ne {X Y : ByteArray} (h : X ≠ Y) : (X.toList == Y.toList) = false := by
  rw [beq_eq_false_iff_ne, ByteArray.toList_eq, ByteArray.toList_eq]
  intro e
  exact h (ByteArray.ext (Array.ext' e))
def ub (l : List UInt8) : Nat := l.foldl (fun a b => 256 * a + b.toNat) 0
theorem ub_snoc (l : List UInt8) (b : UInt8) : ub (l ++ [b]) = 256 * ub l + b.toNat := by simp [ub]
theorem ub_at (s : ByteArray) (k : Nat) (h : k < s.size) : ub (s.data.toList.take (k + 1)) = 256 * ub (s.data.toList.take k) + s[k].toNat := by
  rw [take_snoc s k h, ub_snoc]
theorem ub_lt (s : ByteArray) (k : Nat) (h : k ≤ s.size) : ub (s.data.toList.take k) < 256 ^ k := by
  induction k with
  | zero => simp [ub]
  | succ k ih =>
    have := ih (by omega)
    have hb := (s[k]'(by omega)).toNat_lt
    rw [ub_at s k (by omega), Nat.pow_succ]
    omega
def un (s : ByteArray) : Nat := if s.size = 4 then ub s.data.toList else 0
def ue (s : ByteArray) : Int := if s.size = 4 then 0 else 6
theorem or_byte (z b : Nat) (hz : z < 16777216) (hb : b < 256) : bits .or .u32 ((z : Int) * 256) (b : Int) = ((256 * z + b : Nat) : Int) := by
  have e : (z : Int) * 256 = ((256 * z : Nat) : Int) := by omega
  rw [e, u32_or_nat _ _ (by omega) (by omega), nat_join 8 _ _ (by omega) (by omega)]
theorem lt24 {x k : Nat} (hk : k < 4) (h : x < 256 ^ k) : x < 16777216 := Nat.lt_of_lt_of_le h (by have : 256 ^ k ≤ 256 ^ 3 := Nat.pow_le_pow_right (by decide) (by omega); simpa using this)
theorem live1 : ext 0 [49, 50, 51, 52, 53, 54, 55, 56, 57] = 3421780262 := by decide +kernel
theorem live2 : tx (hx 1) = ⟨#[48, 48, 48, 48, 48, 48, 48, 49]⟩ := by apply ByteArray.ext; decide +kernel
theorem live3 : tx (b4 16909060) = ⟨#[1, 2, 3, 4]⟩ := by apply ByteArray.ext; decide +kernel
end Go.Proofs.Ytohgflimdoebiaa.Sm
