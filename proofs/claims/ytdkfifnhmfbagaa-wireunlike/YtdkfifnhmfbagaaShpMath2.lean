/- Plain functions on numbers: what lies below what, masks, where two nodes meet. -/
import Derived.Test.YtdkfifnhmfbagaaShpMath
namespace Go.Proofs.Ytdkfifnhmfbagaa.Sh

def belB (v w : Int) : Bool := nodeB v && nodeB w && (v == w || v == par w || v == par (par w) || v == par (par (par w)))
def mskTo (v : Int) : Nat → Int
  | 0 => 0
  | n + 1 => mskTo v n + if belB v (21 + n) then 2 ^ n else 0
def msk (v : Int) : Int := mskTo v 64
def mee (v w : Int) : Int :=
  if nodeB v && nodeB w then (if belB v w then v else if belB (par v) w then par v else if belB (par (par v)) w then par (par v) else 0) else -1

theorem mskTo_bd (v : Int) : ∀ n, 0 ≤ mskTo v n ∧ mskTo v n < 2 ^ n
  | 0 => by simp [mskTo]
  | n + 1 => by
    have := mskTo_bd v n
    simp only [mskTo, Int.pow_succ]
    split <;> omega
theorem belB_no {v w : Int} (h : nodeB v = false) : belB v w = false := by simp [belB, h]
theorem belB_no' {v w : Int} (h : nodeB w = false) : belB v w = false := by simp [belB, h]
theorem mskTo_no {v : Int} (h : nodeB v = false) : ∀ n, mskTo v n = 0
  | 0 => rfl
  | n + 1 => by simp [mskTo, mskTo_no h n, belB_no h]
theorem msk_no {v : Int} (h : v < 0 ∨ 85 ≤ v) : msk v = 0 := mskTo_no (nodeB_no h) 64

/-- The four levels: a mask is a row of ones, shifted. -/
theorem msk3_all : ∀ n : Fin 64, IntKind.u64.wrap (2 ^ ((n.val : Int)).toNat) = msk (21 + n.val) := by decide +kernel
theorem msk2_all : ∀ n : Fin 16, IntKind.u64.wrap (15 * 2 ^ ((n.val : Int) * 4).toNat) = msk (5 + n.val) := by decide +kernel
theorem msk1_all : ∀ n : Fin 4, IntKind.u64.wrap (65535 * 2 ^ ((n.val : Int) * 16).toNat) = msk (1 + n.val) := by decide +kernel
theorem msk0_all : msk 0 = 18446744073709551615 := by decide +kernel
theorem msk3_of {v : Int} (h0 : 21 ≤ v) (h1 : v < 85) : IntKind.u64.wrap (2 ^ (v - 21).toNat) = msk v := by
  have h := msk3_all ⟨(v - 21).toNat, by omega⟩
  simp only [Int.toNat_of_nonneg (show 0 ≤ v - 21 by omega)] at h
  rw [h]; congr 1; omega
theorem msk2_of {v : Int} (h0 : 5 ≤ v) (h1 : v < 21) : IntKind.u64.wrap (15 * 2 ^ ((v - 5) * 4).toNat) = msk v := by
  have h := msk2_all ⟨(v - 5).toNat, by omega⟩
  simp only [Int.toNat_of_nonneg (show 0 ≤ v - 5 by omega)] at h
  rw [h]; congr 1; omega
theorem msk1_of {v : Int} (h0 : 1 ≤ v) (h1 : v < 5) : IntKind.u64.wrap (65535 * 2 ^ ((v - 1) * 16).toNat) = msk v := by
  have h := msk1_all ⟨(v - 1).toNat, by omega⟩
  simp only [Int.toNat_of_nonneg (show 0 ≤ v - 1 by omega)] at h
  rw [h]; congr 1; omega
theorem lev0 {v : Int} (h0 : 0 ≤ v) (h1 : v < 1) : lev v = 0 := by simp only [lev]; repeat' split
                                                                   all_goals omega
theorem lev1 {v : Int} (h0 : 1 ≤ v) (h1 : v < 5) : lev v = 1 := by simp only [lev]; repeat' split
                                                                   all_goals omega
theorem lev2 {v : Int} (h0 : 5 ≤ v) (h1 : v < 21) : lev v = 2 := by simp only [lev]; repeat' split
                                                                    all_goals omega

theorem mee_all : ∀ v w : Fin 85, mee v.val w.val = mee w.val v.val ∧ (w.val < v.val → mee v.val w.val = mee (par v.val) w.val) := by decide +kernel
theorem mee_same : ∀ v : Fin 85, mee v.val v.val = v.val := by decide +kernel
theorem mee_comm {v w : Int} (h0 : 0 ≤ v) (h1 : v < 85) (h2 : 0 ≤ w) (h3 : w < 85) : mee v w = mee w v := by
  have h := (mee_all ⟨v.toNat, by omega⟩ ⟨w.toNat, by omega⟩).1
  simpa [Int.toNat_of_nonneg h0, Int.toNat_of_nonneg h2] using h
theorem mee_up {v w : Int} (h0 : 0 ≤ v) (h1 : v < 85) (h2 : 0 ≤ w) (h3 : w < v) : mee v w = mee (par v) w := by
  have h := (mee_all ⟨v.toNat, by omega⟩ ⟨w.toNat, by omega⟩).2 (by simp; omega)
  simpa [Int.toNat_of_nonneg h0, Int.toNat_of_nonneg h2] using h
theorem mee_self {v : Int} (h0 : 0 ≤ v) (h1 : v < 85) : mee v v = v := by
  have h := mee_same ⟨v.toNat, by omega⟩
  simpa [Int.toNat_of_nonneg h0] using h
theorem mee_no {v w : Int} (h : v < 0 ∨ 85 ≤ v ∨ w < 0 ∨ 85 ≤ w) : mee v w = -1 := by
  have : (nodeB v && nodeB w) = false := by simp [nodeB]; omega
  simp [mee, this]
theorem par_bd {v : Int} (h0 : 1 ≤ v) (h1 : v < 85) : 0 ≤ par v ∧ par v < v := by rw [par_yes h0 h1]; omega
end Go.Proofs.Ytdkfifnhmfbagaa.Sh
