/- Plain facts: which slots a mask has, which nodes lie above slots. -/
import Derived.Test.YtdkfifnhmfbagaaShpMath2
import Derived.Laws.BitsAllLaws
namespace Go.Proofs.Ytdkfifnhmfbagaa.Sh
open Go.RowKit

def hasB (X : Int) (s : Nat) : Bool := X / 2 ^ s % 2 == 1
def hitTo (X v : Int) : Nat → Bool
  | 0 => false
  | n + 1 => hitTo X v n || (hasB X n && belB v (21 + n))
def abvTo (X : Int) : Nat → Int
  | 0 => 0
  | n + 1 => abvTo X n + if hitTo X n 64 then 2 ^ n else 0
def unitOf (n : Nat) : Int := if n < 64 then 2 ^ n else 0

theorem abvTo_bd (X : Int) : ∀ n, 0 ≤ abvTo X n ∧ abvTo X n < 2 ^ n
  | 0 => by simp [abvTo]
  | n + 1 => by
    have := abvTo_bd X n
    simp only [abvTo, Int.pow_succ]
    split <;> omega
theorem pow_le_64 : ∀ n : Fin 64, (2 : Int) ^ n.val ≤ 9223372036854775808 := by decide +kernel
theorem pow_le (n : Nat) (h : n < 64) : (2 : Int) ^ n ≤ 9223372036854775808 := pow_le_64 ⟨n, h⟩
theorem pow_le_20 : ∀ n : Fin 21, (2 : Int) ^ n.val ≤ 1048576 := by decide +kernel
theorem pow_le21 (n : Nat) (h : n < 21) : (2 : Int) ^ n ≤ 1048576 := pow_le_20 ⟨n, h⟩
theorem pow_pos' (n : Nat) : (0 : Int) < 2 ^ n := Int.pow_pos (by omega)
theorem unit_step_64 : ∀ n : Fin 64, IntKind.u64.wrap (unitOf n.val * 2) = unitOf (n.val + 1) := by decide +kernel
theorem unit_step (n : Nat) (h : n < 64) : IntKind.u64.wrap (unitOf n * 2) = unitOf (n + 1) := unit_step_64 ⟨n, h⟩
theorem unit_lt (n : Nat) (h : n < 64) : unitOf n = 2 ^ n := by simp [unitOf, h]

theorem below_all : ∀ v w : Fin 85, (v.val < w.val → belB v.val w.val = belB v.val (par w.val)) ∧ (w.val ≤ v.val → belB v.val w.val = ((w.val : Int) == v.val)) := by decide +kernel
theorem belB_up {v w : Int} (h0 : 0 ≤ v) (h1 : v < w) (h2 : w < 85) : belB v w = belB v (par w) := by
  have h := (below_all ⟨v.toNat, by omega⟩ ⟨w.toNat, by omega⟩).1 (by simp; omega)
  simpa [Int.toNat_of_nonneg h0, Int.toNat_of_nonneg (show 0 ≤ w by omega)] using h
theorem belB_at {v w : Int} (h0 : 0 ≤ w) (h1 : w ≤ v) (h2 : v < 85) : belB v w = (w == v) := by
  have h := (below_all ⟨v.toNat, by omega⟩ ⟨w.toNat, by omega⟩).2 (by simp; omega)
  simpa [Int.toNat_of_nonneg h0, Int.toNat_of_nonneg (show 0 ≤ v by omega)] using h

/-- The mask's bits. -/
def mN (v : Int) : Nat → Nat
  | 0 => 0
  | n + 1 => (if belB v (21 + n) then 2 ^ n else 0) + mN v n
theorem mN_lt (v : Int) : ∀ n, mN v n < 2 ^ n
  | 0 => by simp [mN]
  | n + 1 => by
    have := mN_lt v n
    simp only [mN, Nat.pow_succ]
    split <;> omega
theorem mskTo_mN (v : Int) : ∀ n, mskTo v n = (mN v n : Int)
  | 0 => rfl
  | n + 1 => by
    simp only [mskTo, mN, mskTo_mN v n]
    split <;> push_cast <;> omega
theorem mN_bit (v : Int) : ∀ n i, (mN v n).testBit i = (decide (i < n) && belB v (21 + i))
  | 0, i => by simp [mN]
  | n + 1, i => by
    simp only [mN]
    have ih := mN_bit v n
    have hl := mN_lt v n
    by_cases hb : belB v (21 + n) = true
    · rw [if_pos hb]
      rcases Nat.lt_trichotomy i n with h | h | h
      · rw [Nat.testBit_two_pow_add_gt h, ih i]
        have : i < n + 1 := by omega
        simp [h, this]
      · subst h
        rw [Nat.testBit_two_pow_add_eq, Nat.testBit_lt_two_pow hl]
        simp [hb]
      · rw [Nat.testBit_lt_two_pow (Nat.lt_of_lt_of_le (show 2 ^ n + mN v n < 2 ^ (n + 1) by rw [Nat.pow_succ]; omega) (Nat.pow_le_pow_right (by omega) h))]
        have : ¬ i < n + 1 := by omega
        simp [this]
    · rw [if_neg hb, Nat.zero_add, ih i]
      rcases Nat.lt_trichotomy i n with h | h | h
      · have : i < n + 1 := by omega
        simp [h, this]
      · subst h
        simp at hb
        simp [hb]
      · have h1 : ¬ i < n := by omega
        have h2 : ¬ i < n + 1 := by omega
        simp [h1, h2]
theorem hasB_bit (X : Nat) (s : Nat) : hasB (X : Int) s = X.testBit s := by
  rw [Nat.testBit_eq_decide_div_mod_eq, hasB]
  have e : ((X : Int) / 2 ^ s % 2) = ((X / 2 ^ s % 2 : Nat) : Int) := by push_cast; rfl
  rw [e]
  generalize X / 2 ^ s % 2 = q
  rw [Bool.eq_iff_iff, beq_iff_eq, decide_eq_true_eq]
  omega
theorem hitTo_iff (X v : Int) : ∀ n, hitTo X v n = true ↔ ∃ s, s < n ∧ hasB X s = true ∧ belB v (21 + s) = true
  | 0 => by simp [hitTo]
  | n + 1 => by
    simp only [hitTo, Bool.or_eq_true, Bool.and_eq_true, hitTo_iff X v n]
    constructor
    · rintro (⟨s, h, a, b⟩ | ⟨a, b⟩)
      · exact ⟨s, by omega, a, b⟩
      · exact ⟨n, by omega, a, b⟩
    · rintro ⟨s, h, a, b⟩
      by_cases e : s = n
      · subst e; exact .inr ⟨a, b⟩
      · exact .inl ⟨s, by omega, a, b⟩
theorem hit_and (v X : Int) (h0 : 0 ≤ X) (h1 : X < 18446744073709551616) : (bits .and .u64 (msk v) X != 0) = hitTo X v 64 := by
  obtain ⟨x, rfl⟩ := Int.eq_ofNat_of_zero_le h0
  have hx : x < 18446744073709551616 := by omega
  have hm := mN_lt v 64
  rw [msk, mskTo_mN, u64_and_nat _ _ (by simpa using hm) hx]
  rw [Bool.eq_iff_iff, hitTo_iff]
  constructor
  · intro h
    have hne : mN v 64 &&& x ≠ 0 := by intro e; rw [e] at h; simp at h
    obtain ⟨i, hi⟩ := Nat.exists_testBit_of_ne_zero hne
    rw [Nat.testBit_and, mN_bit] at hi
    simp only [Bool.and_eq_true, decide_eq_true_eq] at hi
    exact ⟨i, hi.1.1, by rw [hasB_bit]; exact hi.2, hi.1.2⟩
  · rintro ⟨s, hs, ha, hb⟩
    rw [hasB_bit] at ha
    have : (mN v 64 &&& x).testBit s = true := by rw [Nat.testBit_and, mN_bit]; simp [hs, ha, hb]
    have hne : mN v 64 &&& x ≠ 0 := by intro e; rw [e] at this; simp at this
    simp; omega
theorem or_unit (A : Int) (k : Nat) (hk : k < 21) (h0 : 0 ≤ A) (h1 : A < 2 ^ k) : bits .or .u32 A (2 ^ k % 4294967296) = A + 2 ^ k := by
  have hp := pow_le21 k hk
  obtain ⟨a, rfl⟩ := Int.eq_ofNat_of_zero_le h0
  have hc : ((2 : Int) ^ k) = ((2 ^ k : Nat) : Int) := by push_cast; rfl
  rw [hc] at hp h1 ⊢
  rw [Int.emod_eq_of_lt (by omega) (by omega), u32_or_nat _ _ (by omega) (by omega), Nat.or_comm, nat_join k (2 ^ k) a (by simp) (by omega)]
  omega
theorem abv_bit (X : Int) (k : Nat) : ∀ n, k < n → abvTo X n / 2 ^ k % 2 = if hitTo X k 64 then 1 else 0
  | 0, h => by omega
  | n + 1, h => by
    by_cases e : k = n
    · subst e
      have hb := abvTo_bd X k
      have hp := pow_pos' k
      simp only [abvTo]
      split
      · rw [Int.add_ediv_of_dvd_right (Int.dvd_refl _), Int.ediv_self (by omega), Int.ediv_eq_zero_of_lt hb.1 hb.2]; rfl
      · rw [Int.add_zero, Int.ediv_eq_zero_of_lt hb.1 hb.2]; rfl
    · have ih := abv_bit X k n (by omega)
      simp only [abvTo]
      rw [← ih]
      split
      · have h2 : (2 : Int) ^ n = 2 ^ k * (2 * 2 ^ (n - k - 1)) := by
          rw [← Int.pow_succ', ← Int.pow_add]; congr 1; omega
        rw [h2, Int.add_mul_ediv_left _ _ (by have := pow_pos' k; omega), Int.add_mul_emod_self_left]
      · rw [Int.add_zero]
theorem and1_u32 (Y : Int) (h0 : 0 ≤ Y) (h1 : Y < 4294967296) : bits .and .u32 Y 1 = Y % 2 := by
  obtain ⟨y, rfl⟩ := Int.eq_ofNat_of_zero_le h0
  have h := u32_and_nat y 1 (by omega) (by omega)
  rw [show ((1 : Nat) : Int) = 1 from rfl] at h
  rw [h, nat_mask1]; omega
theorem abv_hit (X : Int) (v : Int) (h0 : 0 ≤ v) (h1 : v < 21) : (bits .and .u32 (abvTo X 21 / 2 ^ v.toNat) 1 == 1) = hitTo X v 64 := by
  have hb := abvTo_bd X 21
  have hp := pow_pos' v.toNat
  have hq : abvTo X 21 / 2 ^ v.toNat ≤ abvTo X 21 := Int.ediv_le_self _ hb.1
  have hz : 0 ≤ abvTo X 21 / 2 ^ v.toNat := Int.ediv_nonneg hb.1 (by omega)
  rw [and1_u32 _ hz (by omega), abv_bit X v.toNat 21 (by omega), Int.toNat_of_nonneg h0]
  cases hitTo X v 64 <;> rfl
theorem msk_bd (v : Int) : 0 ≤ msk v ∧ msk v < 18446744073709551616 := mskTo_bd v 64
end Go.Proofs.Ytdkfifnhmfbagaa.Sh
