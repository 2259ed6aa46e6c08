/- ShpMath, ShpMath2, ShpMath3, ShpA, ShpB, ShpC, ShpD, joined. -/
import Derived.WalkKit
import Derived.ProofKit
import Derived.Laws.Bits64
import Derived.Laws.BitsAllLaws
import Derived.Test.YtpimbpfefhkojaaGreatChecked
/- Plain functions on numbers: what the functions of package shape answer, and small facts on them. -/
namespace Go.Proofs.YtpimbpfefhkojaaGreat.Sh
open Go.RowKit

theorem ret_int {k : IntKind} {a b : Int} (h : a = b) : Ending.returned (.int k a) = .returned (.int k b) := by rw [h]
theorem ret_bool {a b : Bool} (h : a = b) : Ending.returned (.bool a) = .returned (.bool b) := by rw [h]

def par (v : Int) : Int := if 1 ≤ v ∧ v < 85 then (v - 1) / 4 else -1
def chd (v i : Int) : Int := if 0 ≤ v ∧ v < 21 ∧ 0 ≤ i ∧ i < 4 then 4 * v + 1 + i else -1
def whc (v : Int) : Int := if 1 ≤ v ∧ v < 85 then (v - 1) % 4 else -1
def lef (s : Int) : Int := if 0 ≤ s ∧ s < 64 then 21 + s else -1
def slo (v : Int) : Int := if 21 ≤ v ∧ v < 85 then v - 21 else -1
def lev (v : Int) : Int := if v < 0 then -1 else if v < 1 then 0 else if v < 5 then 1 else if v < 21 then 2 else if v < 85 then 3 else -1
def fst (k : Int) : Int := if k < 1 then 0 else if k < 2 then 1 else if k < 3 then 5 else if k < 4 then 21 else 85
def nodeB (v : Int) : Bool := decide (0 ≤ v ∧ v < 85)

theorem par_yes {v : Int} (h0 : 1 ≤ v) (h1 : v < 85) : par v = (v - 1) / 4 := by simp [par, h0, h1]
theorem par_no {v : Int} (h : v < 1 ∨ 85 ≤ v) : par v = -1 := by simp [par]; omega
theorem chd_yes {v i : Int} (h0 : 0 ≤ v) (h1 : v < 21) (h2 : 0 ≤ i) (h3 : i < 4) : chd v i = 4 * v + 1 + i := by simp [chd, h0, h1, h2, h3]
theorem chd_no {v i : Int} (h : v < 0 ∨ 21 ≤ v ∨ i < 0 ∨ 4 ≤ i) : chd v i = -1 := by simp [chd]; omega
theorem whc_yes {v : Int} (h0 : 1 ≤ v) (h1 : v < 85) : whc v = (v - 1) % 4 := by simp [whc, h0, h1]
theorem whc_no {v : Int} (h : v < 1 ∨ 85 ≤ v) : whc v = -1 := by simp [whc]; omega
theorem lef_yes {v : Int} (h0 : 0 ≤ v) (h1 : v < 64) : lef v = 21 + v := by simp [lef, h0, h1]
theorem lef_no {v : Int} (h : v < 0 ∨ 64 ≤ v) : lef v = -1 := by simp [lef]; omega
theorem slo_yes {v : Int} (h0 : 21 ≤ v) (h1 : v < 85) : slo v = v - 21 := by simp [slo, h0, h1]
theorem slo_no {v : Int} (h : v < 21 ∨ 85 ≤ v) : slo v = -1 := by simp [slo]; omega
theorem nodeB_yes {v : Int} (h0 : 0 ≤ v) (h1 : v < 85) : nodeB v = true := by simp [nodeB, h0, h1]
theorem nodeB_no {v : Int} (h : v < 0 ∨ 85 ≤ v) : nodeB v = false := by simp [nodeB]; omega

theorem and3_64 : ∀ n : Fin 85, bits .and .i64 (n.val : Int) 3 = (n.val : Int) % 4 := by decide +kernel
theorem and3 (x : Int) (h0 : 0 ≤ x) (h1 : x < 85) : bits .and .i64 x 3 = x % 4 := by
  have h := and3_64 ⟨x.toNat, by omega⟩
  rwa [Int.toNat_of_nonneg h0] at h

theorem and3u_64 : ∀ n : Fin 64, bits .and .u8 (n.val : Int) 3 = (n.val : Int) % 4 := by decide +kernel
theorem and3u (x : Int) (h0 : 0 ≤ x) (h1 : x < 64) : bits .and .u8 x 3 = x % 4 := by
  have h := and3u_64 ⟨x.toNat, by omega⟩
  rwa [Int.toNat_of_nonneg h0] at h
theorem or4_64 : ∀ n : Fin 16, ∀ m : Fin 4, bits .or .i64 ((n.val : Int) * 4) (m.val : Int) = (n.val : Int) * 4 + (m.val : Int) := by decide +kernel
theorem or4 (x y : Int) (h0 : 0 ≤ x) (h1 : x < 16) (h2 : 0 ≤ y) (h3 : y < 4) : bits .or .i64 (x * 4) y = x * 4 + y := by
  have h := or4_64 ⟨x.toNat, by omega⟩ ⟨y.toNat, by omega⟩
  simpa [Int.toNat_of_nonneg h0, Int.toNat_of_nonneg h2] using h
def und (a b c : Int) : Int := if 0 ≤ a ∧ a < 4 ∧ 0 ≤ b ∧ b < 4 ∧ 0 ≤ c ∧ c < 4 then (a * 4 + b) * 4 + c else -1
theorem und_yes {a b c : Int} (h0 : 0 ≤ a) (h1 : a < 4) (h2 : 0 ≤ b) (h3 : b < 4) (h4 : 0 ≤ c) (h5 : c < 4) : und a b c = (a * 4 + b) * 4 + c := by simp [und, h0, h1, h2, h3, h4, h5]
theorem und_no {a b c : Int} (h : 4 ≤ a ∨ 4 ≤ b ∨ 4 ≤ c) : und a b c = -1 := by simp [und]; omega

theorem mod_of (n m : Int) (hm0 : 0 < m) (hm1 : m ≤ 1000) : ∃ v, wrap64 ((IntKind.u64.wrap n).tmod m) = v ∧ 0 ≤ v ∧ v < m := by
  refine ⟨_, rfl, ?_⟩
  have h0 : 0 ≤ IntKind.u64.wrap n := by simp only [IntKind.wrap_u64]; omega
  rw [Int.tmod_eq_emod_of_nonneg h0]
  have h1 : 0 ≤ IntKind.u64.wrap n % m := Int.emod_nonneg _ (by omega)
  have h2 : IntKind.u64.wrap n % m < m := Int.emod_lt_of_pos _ hm0
  have h3 : wrap64 (IntKind.u64.wrap n % m) = IntKind.u64.wrap n % m := by unfold wrap64; omega
  rw [h3]
  exact ⟨h1, h2⟩

theorem lev_par {v : Int} (h0 : 1 ≤ v) (h1 : v < 85) : lev (par v) = lev v - 1 := by
  rw [par_yes h0 h1]; simp only [lev]; repeat' split
  all_goals omega
theorem chd_par {v : Int} (h0 : 1 ≤ v) (h1 : v < 85) : chd (par v) (whc v) = v := by
  rw [par_yes h0 h1, whc_yes h0 h1, chd_yes (by omega) (by omega) (by omega) (by omega)]; omega
theorem par_chd {v i : Int} (h0 : 0 ≤ v) (h1 : v < 21) (h2 : 0 ≤ i) (h3 : i < 4) : par (chd v i) = v := by
  rw [chd_yes h0 h1 h2 h3, par_yes (by omega) (by omega)]; omega
theorem whc_chd {v i : Int} (h0 : 0 ≤ v) (h1 : v < 21) (h2 : 0 ≤ i) (h3 : i < 4) : whc (chd v i) = i := by
  rw [chd_yes h0 h1 h2 h3, whc_yes (by omega) (by omega)]; omega
theorem lef_slo {v : Int} (h0 : 21 ≤ v) (h1 : v < 85) : lef (slo v) = v := by
  rw [slo_yes h0 h1, lef_yes (by omega) (by omega)]; omega
theorem lev_leaf {v : Int} (h0 : 21 ≤ v) (h1 : v < 85) : lev v = 3 := by
  simp only [lev]; repeat' split
  all_goals omega
theorem lev_bd {v : Int} (h0 : 0 ≤ v) (h1 : v < 85) : 0 ≤ lev v ∧ lev v ≤ 3 := by
  simp only [lev]; repeat' split
  all_goals omega
end Go.Proofs.YtpimbpfefhkojaaGreat.Sh
/- Plain functions on numbers: what lies below what, masks, where two nodes meet. -/
namespace Go.Proofs.YtpimbpfefhkojaaGreat.Sh

def belB (v w : Int) : Bool := nodeB v && nodeB w && (v == w || v == par w || v == par (par w) || v == par (par (par w)))
def mskTo (v : Int) : Nat → Int
  | 0 => 0
  | n + 1 => mskTo v n + if belB v (21 + n) then 2 ^ n else 0
def msk (v : Int) : Int := mskTo v 64
def mee (v w : Int) : Int :=
  if nodeB v && nodeB w then (if belB v w then v else if belB (par v) w then par v else if belB (par (par v)) w then par (par v) else 0) else -1

theorem mskTo_bd (v : Int) : ∀ n, 0 ≤ mskTo v n ∧ mskTo v n < 2 ^ n
  | 0 => by simp [mskTo]
  | n + 1 => by
    have := mskTo_bd v n
    simp only [mskTo, Int.pow_succ]
    split <;> omega
theorem belB_no {v w : Int} (h : nodeB v = false) : belB v w = false := by simp [belB, h]
theorem belB_no' {v w : Int} (h : nodeB w = false) : belB v w = false := by simp [belB, h]
theorem mskTo_no {v : Int} (h : nodeB v = false) : ∀ n, mskTo v n = 0
  | 0 => rfl
  | n + 1 => by simp [mskTo, mskTo_no h n, belB_no h]
theorem msk_no {v : Int} (h : v < 0 ∨ 85 ≤ v) : msk v = 0 := mskTo_no (nodeB_no h) 64

/-- The four levels: a mask is a row of ones, shifted. -/
theorem msk3_all : ∀ n : Fin 64, IntKind.u64.wrap (2 ^ ((n.val : Int)).toNat) = msk (21 + n.val) := by decide +kernel
theorem msk2_all : ∀ n : Fin 16, IntKind.u64.wrap (15 * 2 ^ ((n.val : Int) * 4).toNat) = msk (5 + n.val) := by decide +kernel
theorem msk1_all : ∀ n : Fin 4, IntKind.u64.wrap (65535 * 2 ^ ((n.val : Int) * 16).toNat) = msk (1 + n.val) := by decide +kernel
theorem msk0_all : msk 0 = 18446744073709551615 := by decide +kernel
theorem msk3_of {v : Int} (h0 : 21 ≤ v) (h1 : v < 85) : IntKind.u64.wrap (2 ^ (v - 21).toNat) = msk v := by
  have h := msk3_all ⟨(v - 21).toNat, by omega⟩
  simp only [Int.toNat_of_nonneg (show 0 ≤ v - 21 by omega)] at h
  rw [h]; congr 1; omega
theorem msk2_of {v : Int} (h0 : 5 ≤ v) (h1 : v < 21) : IntKind.u64.wrap (15 * 2 ^ ((v - 5) * 4).toNat) = msk v := by
  have h := msk2_all ⟨(v - 5).toNat, by omega⟩
  simp only [Int.toNat_of_nonneg (show 0 ≤ v - 5 by omega)] at h
  rw [h]; congr 1; omega
theorem msk1_of {v : Int} (h0 : 1 ≤ v) (h1 : v < 5) : IntKind.u64.wrap (65535 * 2 ^ ((v - 1) * 16).toNat) = msk v := by
  have h := msk1_all ⟨(v - 1).toNat, by omega⟩
  simp only [Int.toNat_of_nonneg (show 0 ≤ v - 1 by omega)] at h
  rw [h]; congr 1; omega
theorem lev0 {v : Int} (h0 : 0 ≤ v) (h1 : v < 1) : lev v = 0 := by simp only [lev]; repeat' split
                                                                   all_goals omega
theorem lev1 {v : Int} (h0 : 1 ≤ v) (h1 : v < 5) : lev v = 1 := by simp only [lev]; repeat' split
                                                                   all_goals omega
theorem lev2 {v : Int} (h0 : 5 ≤ v) (h1 : v < 21) : lev v = 2 := by simp only [lev]; repeat' split
                                                                    all_goals omega

theorem mee_all : ∀ v w : Fin 85, mee v.val w.val = mee w.val v.val ∧ (w.val < v.val → mee v.val w.val = mee (par v.val) w.val) := by decide +kernel
theorem mee_same : ∀ v : Fin 85, mee v.val v.val = v.val := by decide +kernel
theorem mee_comm {v w : Int} (h0 : 0 ≤ v) (h1 : v < 85) (h2 : 0 ≤ w) (h3 : w < 85) : mee v w = mee w v := by
  have h := (mee_all ⟨v.toNat, by omega⟩ ⟨w.toNat, by omega⟩).1
  simpa [Int.toNat_of_nonneg h0, Int.toNat_of_nonneg h2] using h
theorem mee_up {v w : Int} (h0 : 0 ≤ v) (h1 : v < 85) (h2 : 0 ≤ w) (h3 : w < v) : mee v w = mee (par v) w := by
  have h := (mee_all ⟨v.toNat, by omega⟩ ⟨w.toNat, by omega⟩).2 (by simp; omega)
  simpa [Int.toNat_of_nonneg h0, Int.toNat_of_nonneg h2] using h
theorem mee_self {v : Int} (h0 : 0 ≤ v) (h1 : v < 85) : mee v v = v := by
  have h := mee_same ⟨v.toNat, by omega⟩
  simpa [Int.toNat_of_nonneg h0] using h
theorem mee_no {v w : Int} (h : v < 0 ∨ 85 ≤ v ∨ w < 0 ∨ 85 ≤ w) : mee v w = -1 := by
  have : (nodeB v && nodeB w) = false := by simp [nodeB]; omega
  simp [mee, this]
theorem par_bd {v : Int} (h0 : 1 ≤ v) (h1 : v < 85) : 0 ≤ par v ∧ par v < v := by rw [par_yes h0 h1]; omega
end Go.Proofs.YtpimbpfefhkojaaGreat.Sh
/- Plain facts: which slots a mask has, which nodes lie above slots. -/
namespace Go.Proofs.YtpimbpfefhkojaaGreat.Sh
open Go.RowKit

def hasB (X : Int) (s : Nat) : Bool := X / 2 ^ s % 2 == 1
def hitTo (X v : Int) : Nat → Bool
  | 0 => false
  | n + 1 => hitTo X v n || (hasB X n && belB v (21 + n))
def abvTo (X : Int) : Nat → Int
  | 0 => 0
  | n + 1 => abvTo X n + if hitTo X n 64 then 2 ^ n else 0
def unitOf (n : Nat) : Int := if n < 64 then 2 ^ n else 0

theorem abvTo_bd (X : Int) : ∀ n, 0 ≤ abvTo X n ∧ abvTo X n < 2 ^ n
  | 0 => by simp [abvTo]
  | n + 1 => by
    have := abvTo_bd X n
    simp only [abvTo, Int.pow_succ]
    split <;> omega
theorem pow_le_64 : ∀ n : Fin 64, (2 : Int) ^ n.val ≤ 9223372036854775808 := by decide +kernel
theorem pow_le (n : Nat) (h : n < 64) : (2 : Int) ^ n ≤ 9223372036854775808 := pow_le_64 ⟨n, h⟩
theorem pow_le_20 : ∀ n : Fin 21, (2 : Int) ^ n.val ≤ 1048576 := by decide +kernel
theorem pow_le21 (n : Nat) (h : n < 21) : (2 : Int) ^ n ≤ 1048576 := pow_le_20 ⟨n, h⟩
theorem pow_pos' (n : Nat) : (0 : Int) < 2 ^ n := Int.pow_pos (by omega)
theorem unit_step_64 : ∀ n : Fin 64, IntKind.u64.wrap (unitOf n.val * 2) = unitOf (n.val + 1) := by decide +kernel
theorem unit_step (n : Nat) (h : n < 64) : IntKind.u64.wrap (unitOf n * 2) = unitOf (n + 1) := unit_step_64 ⟨n, h⟩
theorem unit_lt (n : Nat) (h : n < 64) : unitOf n = 2 ^ n := by simp [unitOf, h]

theorem below_all : ∀ v w : Fin 85, (v.val < w.val → belB v.val w.val = belB v.val (par w.val)) ∧ (w.val ≤ v.val → belB v.val w.val = ((w.val : Int) == v.val)) := by decide +kernel
theorem belB_up {v w : Int} (h0 : 0 ≤ v) (h1 : v < w) (h2 : w < 85) : belB v w = belB v (par w) := by
  have h := (below_all ⟨v.toNat, by omega⟩ ⟨w.toNat, by omega⟩).1 (by simp; omega)
  simpa [Int.toNat_of_nonneg h0, Int.toNat_of_nonneg (show 0 ≤ w by omega)] using h
theorem belB_at {v w : Int} (h0 : 0 ≤ w) (h1 : w ≤ v) (h2 : v < 85) : belB v w = (w == v) := by
  have h := (below_all ⟨v.toNat, by omega⟩ ⟨w.toNat, by omega⟩).2 (by simp; omega)
  simpa [Int.toNat_of_nonneg h0, Int.toNat_of_nonneg (show 0 ≤ v by omega)] using h

/-- The mask's bits. -/
def mN (v : Int) : Nat → Nat
  | 0 => 0
  | n + 1 => (if belB v (21 + n) then 2 ^ n else 0) + mN v n
theorem mN_lt (v : Int) : ∀ n, mN v n < 2 ^ n
  | 0 => by simp [mN]
  | n + 1 => by
    have := mN_lt v n
    simp only [mN, Nat.pow_succ]
    split <;> omega
theorem mskTo_mN (v : Int) : ∀ n, mskTo v n = (mN v n : Int)
  | 0 => rfl
  | n + 1 => by
    simp only [mskTo, mN, mskTo_mN v n]
    split <;> push_cast <;> omega
theorem mN_bit (v : Int) : ∀ n i, (mN v n).testBit i = (decide (i < n) && belB v (21 + i))
  | 0, i => by simp [mN]
  | n + 1, i => by
    simp only [mN]
    have ih := mN_bit v n
    have hl := mN_lt v n
    by_cases hb : belB v (21 + n) = true
    · rw [if_pos hb]
      rcases Nat.lt_trichotomy i n with h | h | h
      · rw [Nat.testBit_two_pow_add_gt h, ih i]
        have : i < n + 1 := by omega
        simp [h, this]
      · subst h
        rw [Nat.testBit_two_pow_add_eq, Nat.testBit_lt_two_pow hl]
        simp [hb]
      · rw [Nat.testBit_lt_two_pow (Nat.lt_of_lt_of_le (show 2 ^ n + mN v n < 2 ^ (n + 1) by rw [Nat.pow_succ]; omega) (Nat.pow_le_pow_right (by omega) h))]
        have : ¬ i < n + 1 := by omega
        simp [this]
    · rw [if_neg hb, Nat.zero_add, ih i]
      rcases Nat.lt_trichotomy i n with h | h | h
      · have : i < n + 1 := by omega
        simp [h, this]
      · subst h
        simp at hb
        simp [hb]
      · have h1 : ¬ i < n := by omega
        have h2 : ¬ i < n + 1 := by omega
        simp [h1, h2]
theorem hasB_bit (X : Nat) (s : Nat) : hasB (X : Int) s = X.testBit s := by
  rw [Nat.testBit_eq_decide_div_mod_eq, hasB]
  have e : ((X : Int) / 2 ^ s % 2) = ((X / 2 ^ s % 2 : Nat) : Int) := by push_cast; rfl
  rw [e]
  generalize X / 2 ^ s % 2 = q
  rw [Bool.eq_iff_iff, beq_iff_eq, decide_eq_true_eq]
  omega
theorem hitTo_iff (X v : Int) : ∀ n, hitTo X v n = true ↔ ∃ s, s < n ∧ hasB X s = true ∧ belB v (21 + s) = true
  | 0 => by simp [hitTo]
  | n + 1 => by
    simp only [hitTo, Bool.or_eq_true, Bool.and_eq_true, hitTo_iff X v n]
    constructor
    · rintro (⟨s, h, a, b⟩ | ⟨a, b⟩)
      · exact ⟨s, by omega, a, b⟩
      · exact ⟨n, by omega, a, b⟩
    · rintro ⟨s, h, a, b⟩
      by_cases e : s = n
      · subst e; exact .inr ⟨a, b⟩
      · exact .inl ⟨s, by omega, a, b⟩
theorem hit_and (v X : Int) (h0 : 0 ≤ X) (h1 : X < 18446744073709551616) : (bits .and .u64 (msk v) X != 0) = hitTo X v 64 := by
  obtain ⟨x, rfl⟩ := Int.eq_ofNat_of_zero_le h0
  have hx : x < 18446744073709551616 := by omega
  have hm := mN_lt v 64
  rw [msk, mskTo_mN, u64_and_nat _ _ (by simpa using hm) hx]
  rw [Bool.eq_iff_iff, hitTo_iff]
  constructor
  · intro h
    have hne : mN v 64 &&& x ≠ 0 := by intro e; rw [e] at h; simp at h
    obtain ⟨i, hi⟩ := Nat.exists_testBit_of_ne_zero hne
    rw [Nat.testBit_and, mN_bit] at hi
    simp only [Bool.and_eq_true, decide_eq_true_eq] at hi
    exact ⟨i, hi.1.1, by rw [hasB_bit]; exact hi.2, hi.1.2⟩
  · rintro ⟨s, hs, ha, hb⟩
    rw [hasB_bit] at ha
    have : (mN v 64 &&& x).testBit s = true := by rw [Nat.testBit_and, mN_bit]; simp [hs, ha, hb]
    have hne : mN v 64 &&& x ≠ 0 := by intro e; rw [e] at this; simp at this
    simp; omega
theorem or_unit (A : Int) (k : Nat) (hk : k < 21) (h0 : 0 ≤ A) (h1 : A < 2 ^ k) : bits .or .u32 A (2 ^ k % 4294967296) = A + 2 ^ k := by
  have hp := pow_le21 k hk
  obtain ⟨a, rfl⟩ := Int.eq_ofNat_of_zero_le h0
  have hc : ((2 : Int) ^ k) = ((2 ^ k : Nat) : Int) := by push_cast; rfl
  rw [hc] at hp h1 ⊢
  rw [Int.emod_eq_of_lt (by omega) (by omega), u32_or_nat _ _ (by omega) (by omega), Nat.or_comm, nat_join k (2 ^ k) a (by simp) (by omega)]
  omega
theorem abv_bit (X : Int) (k : Nat) : ∀ n, k < n → abvTo X n / 2 ^ k % 2 = if hitTo X k 64 then 1 else 0
  | 0, h => by omega
  | n + 1, h => by
    by_cases e : k = n
    · subst e
      have hb := abvTo_bd X k
      have hp := pow_pos' k
      simp only [abvTo]
      split
      · rw [Int.add_ediv_of_dvd_right (Int.dvd_refl _), Int.ediv_self (by omega), Int.ediv_eq_zero_of_lt hb.1 hb.2]; rfl
      · rw [Int.add_zero, Int.ediv_eq_zero_of_lt hb.1 hb.2]; rfl
    · have ih := abv_bit X k n (by omega)
      simp only [abvTo]
      rw [← ih]
      split
      · have h2 : (2 : Int) ^ n = 2 ^ k * (2 * 2 ^ (n - k - 1)) := by
          rw [← Int.pow_succ', ← Int.pow_add]; congr 1; omega
        rw [h2, Int.add_mul_ediv_left _ _ (by have := pow_pos' k; omega), Int.add_mul_emod_self_left]
      · rw [Int.add_zero]
theorem and1_u32 (Y : Int) (h0 : 0 ≤ Y) (h1 : Y < 4294967296) : bits .and .u32 Y 1 = Y % 2 := by
  obtain ⟨y, rfl⟩ := Int.eq_ofNat_of_zero_le h0
  have h := u32_and_nat y 1 (by omega) (by omega)
  rw [show ((1 : Nat) : Int) = 1 from rfl] at h
  rw [h, nat_mask1]; omega
theorem abv_hit (X : Int) (v : Int) (h0 : 0 ≤ v) (h1 : v < 21) : (bits .and .u32 (abvTo X 21 / 2 ^ v.toNat) 1 == 1) = hitTo X v 64 := by
  have hb := abvTo_bd X 21
  have hp := pow_pos' v.toNat
  have hq : abvTo X 21 / 2 ^ v.toNat ≤ abvTo X 21 := Int.ediv_le_self _ hb.1
  have hz : 0 ≤ abvTo X 21 / 2 ^ v.toNat := Int.ediv_nonneg hb.1 (by omega)
  rw [and1_u32 _ hz (by omega), abv_bit X v.toNat 21 (by omega), Int.toNat_of_nonneg h0]
  cases hitTo X v 64 <;> rfl
theorem msk_bd (v : Int) : 0 ≤ msk v ∧ msk v < 18446744073709551616 := mskTo_bd v 64
end Go.Proofs.YtpimbpfefhkojaaGreat.Sh
/- Contracts of the small functions of package shape and of the document's answers: each answers a plain function of its numbers and leaves the memory alone. -/
namespace Go.Proofs.YtpimbpfefhkojaaGreat.Sh
open Go.RowKit

theorem isNode_yes (v : Int) (h0 : 0 ≤ v) (h1 : v < 85) (w : World) :
    Calls Tryz.prog 105 #[.int .i64 v] w fun e w' => e = .returned (.bool true) ∧ w' = w := by
  go_enter Tryz.func105, Tryz.ntmps105
  go_wp2
  go_ret
  exact ⟨rfl, rfl⟩
theorem isNode_no (v : Int) (h : v < 0 ∨ 85 ≤ v) (w : World) :
    Calls Tryz.prog 105 #[.int .i64 v] w fun e w' => e = .returned (.bool false) ∧ w' = w := by
  by_cases h0 : 0 ≤ v
  · have h1 : decide (v < 85) = false := by simp; omega
    clear h
    go_enter Tryz.func105, Tryz.ntmps105
    go_wp2
    go_ret
    exact ⟨ret_bool (by first | rfl | exact h1), rfl⟩
  · clear h
    go_enter Tryz.func105, Tryz.ntmps105
    go_wp2
    go_ret
    exact ⟨rfl, rfl⟩
theorem isNode_any (v : Int) (w : World) :
    Calls Tryz.prog 105 #[.int .i64 v] w fun e w' => e = .returned (.bool (nodeB v)) ∧ w' = w := by
  by_cases h : 0 ≤ v ∧ v < 85
  · rw [nodeB_yes h.1 h.2]; exact isNode_yes v h.1 h.2 w
  · rw [nodeB_no (by omega)]; exact isNode_no v (by omega) w

theorem isInner_yes (v : Int) (h0 : 0 ≤ v) (h1 : v < 21) (w : World) :
    Calls Tryz.prog 107 #[.int .i64 v] w fun e w' => e = .returned (.bool true) ∧ w' = w := by
  go_enter Tryz.func107, Tryz.ntmps107
  go_wp2
  go_ret
  exact ⟨rfl, rfl⟩
theorem isInner_no (v : Int) (h : v < 0 ∨ 21 ≤ v) (w : World) :
    Calls Tryz.prog 107 #[.int .i64 v] w fun e w' => e = .returned (.bool false) ∧ w' = w := by
  by_cases h0 : 0 ≤ v
  · have h1 : decide (v < 21) = false := by simp; omega
    clear h
    go_enter Tryz.func107, Tryz.ntmps107
    go_wp2
    go_ret
    exact ⟨ret_bool (by first | rfl | exact h1), rfl⟩
  · clear h
    go_enter Tryz.func107, Tryz.ntmps107
    go_wp2
    go_ret
    exact ⟨rfl, rfl⟩

theorem child_any (v i : Int) (w : World) :
    Calls Tryz.prog 95 #[.int .i64 v, .int .i64 i] w fun e w' => e = .returned (.int .i64 (chd v i)) ∧ w' = w := by
  by_cases h : 0 ≤ v ∧ v < 21
  · obtain ⟨h0, h1⟩ := h
    by_cases h2 : 0 ≤ i
    · by_cases h3 : i < 4
      · go_enter Tryz.func95, Tryz.ntmps95
        go_wp2_with (go_at_call 107; refine (isInner_yes _ (by omega) (by omega) _).mono ?_; rintro e w' ⟨rfl, rfl⟩)
        go_ret
        exact ⟨ret_int (by rw [chd_yes h0 h1 h2 h3]; omega), rfl⟩
      · have hp : Hid (chd v i = -1) := chd_no (by omega)
        go_enter Tryz.func95, Tryz.ntmps95
        go_wp2_with (go_at_call 107; refine (isInner_yes _ (by omega) (by omega) _).mono ?_; rintro e w' ⟨rfl, rfl⟩)
        go_ret
        exact ⟨ret_int hp.out.symm, rfl⟩
    · have hp : Hid (chd v i = -1) := chd_no (by omega)
      go_enter Tryz.func95, Tryz.ntmps95
      go_wp2_with (go_at_call 107; refine (isInner_yes _ (by omega) (by omega) _).mono ?_; rintro e w' ⟨rfl, rfl⟩)
      go_ret
      exact ⟨ret_int hp.out.symm, rfl⟩
  · have hp : Hid (chd v i = -1) := chd_no (by omega)
    go_enter Tryz.func95, Tryz.ntmps95
    go_wp2_with (go_at_call 107; refine (isInner_no _ (by omega) _).mono ?_; rintro e w' ⟨rfl, rfl⟩)
    go_ret
    exact ⟨ret_int hp.out.symm, rfl⟩
end Go.Proofs.YtpimbpfefhkojaaGreat.Sh
/- Contracts: leaves and slots, levels; the document's children, parents and levels. -/
namespace Go.Proofs.YtpimbpfefhkojaaGreat.Sh
open Go.RowKit

theorem isSlot_yes (v : Int) (h0 : 0 ≤ v) (h1 : v < 64) (w : World) :
    Calls Tryz.prog 93 #[.int .i64 v] w fun e w' => e = .returned (.bool true) ∧ w' = w := by
  go_enter Tryz.func93, Tryz.ntmps93
  go_wp2
  go_ret
  exact ⟨rfl, rfl⟩
theorem isSlot_no (v : Int) (h : v < 0 ∨ 64 ≤ v) (w : World) :
    Calls Tryz.prog 93 #[.int .i64 v] w fun e w' => e = .returned (.bool false) ∧ w' = w := by
  by_cases h0 : 0 ≤ v
  · have h1 : decide (v < 64) = false := by simp; omega
    clear h
    go_enter Tryz.func93, Tryz.ntmps93
    go_wp2
    go_ret
    exact ⟨ret_bool (by first | rfl | exact h1), rfl⟩
  · clear h
    go_enter Tryz.func93, Tryz.ntmps93
    go_wp2
    go_ret
    exact ⟨rfl, rfl⟩
theorem leaf_any (v : Int) (w : World) :
    Calls Tryz.prog 73 #[.int .i64 v] w fun e w' => e = .returned (.int .i64 (lef v)) ∧ w' = w := by
  by_cases h : 0 ≤ v ∧ v < 64
  · obtain ⟨h0, h1⟩ := h
    go_enter Tryz.func73, Tryz.ntmps73
    go_wp2_with (go_at_call 93; refine (isSlot_yes _ (by omega) (by omega) _).mono ?_; rintro e w' ⟨rfl, rfl⟩)
    go_ret
    exact ⟨ret_int (lef_yes h0 h1).symm, rfl⟩
  · have hp : Hid (lef v = -1) := lef_no (by omega)
    go_enter Tryz.func73, Tryz.ntmps73
    go_wp2_with (go_at_call 93; refine (isSlot_no _ (by omega) _).mono ?_; rintro e w' ⟨rfl, rfl⟩)
    go_ret
    exact ⟨ret_int hp.out.symm, rfl⟩
theorem slot_any (v : Int) (w : World) :
    Calls Tryz.prog 91 #[.int .i64 v] w fun e w' => e = .returned (.int .i64 (slo v)) ∧ w' = w := by
  by_cases h : 0 ≤ v ∧ v < 85
  · obtain ⟨h0, h1⟩ := h
    by_cases h2 : v < 21
    · have hp : Hid (slo v = -1) := slo_no (by omega)
      go_enter Tryz.func91, Tryz.ntmps91
      go_wp2_with (first | (go_at_call 105; refine (isNode_yes _ (by omega) (by omega) _).mono ?_; rintro e w' ⟨rfl, rfl⟩) | (go_at_call 107; refine (isInner_yes _ (by omega) (by omega) _).mono ?_; rintro e w' ⟨rfl, rfl⟩))
      go_ret
      exact ⟨ret_int hp.out.symm, rfl⟩
    · go_enter Tryz.func91, Tryz.ntmps91
      go_wp2_with (first | (go_at_call 105; refine (isNode_yes _ (by omega) (by omega) _).mono ?_; rintro e w' ⟨rfl, rfl⟩) | (go_at_call 107; refine (isInner_no _ (by omega) _).mono ?_; rintro e w' ⟨rfl, rfl⟩))
      go_ret
      exact ⟨ret_int (slo_yes (by omega) (by omega)).symm, rfl⟩
  · have hp : Hid (slo v = -1) := slo_no (by omega)
    go_enter Tryz.func91, Tryz.ntmps91
    go_wp2_with (go_at_call 105; refine (isNode_no _ (by omega) _).mono ?_; rintro e w' ⟨rfl, rfl⟩)
    go_ret
    exact ⟨ret_int hp.out.symm, rfl⟩

theorem first_any (k : Nat) (h : k ≤ 4) (w : World) :
    Calls Tryz.prog 106 #[.int .i64 (k : Int)] w fun e w' => e = .returned (.int .i64 (fst k)) ∧ w' = w := by
  match k, h with
  | 0, _ => go_enter Tryz.func106, Tryz.ntmps106; go_wp2; go_ret; exact ⟨rfl, rfl⟩
  | 1, _ => go_enter Tryz.func106, Tryz.ntmps106; go_wp2; go_ret; exact ⟨rfl, rfl⟩
  | 2, _ => go_enter Tryz.func106, Tryz.ntmps106; go_wp2; go_ret; exact ⟨rfl, rfl⟩
  | 3, _ => go_enter Tryz.func106, Tryz.ntmps106; go_wp2; go_ret; exact ⟨rfl, rfl⟩
  | 4, _ => go_enter Tryz.func106, Tryz.ntmps106; go_wp2; go_ret; exact ⟨rfl, rfl⟩

theorem level_any (v : Int) (w : World) :
    Calls Tryz.prog 90 #[.int .i64 v] w fun e w' => e = .returned (.int .i64 (lev v)) ∧ w' = w := by
  by_cases h : 0 ≤ v ∧ v < 85
  · obtain ⟨h0, h1⟩ := h
    go_enter Tryz.func90, Tryz.ntmps90
    go_wp2_with (go_at_call 105; refine (isNode_yes _ (by omega) (by omega) _).mono ?_; rintro e w' ⟨rfl, rfl⟩)
    go_loop [3] (fun t => ∃ k : Nat, k ≤ 3 ∧ fst k ≤ v ∧ t = .int .i64 k) (fun t => 4 - (intOf t).toNat)
    case atStart => exact ⟨0, by omega, by simpa [fst] using h0, rfl⟩
    case round =>
      obtain ⟨k, hk, hf, rfl⟩ := hrel
      by_cases hc : fst ((k : Int) + 1) ≤ v
      · go_wp2_with (go_at_call 106; refine (first_any (k + 1) (by omega) _).mono ?_; rintro e w' ⟨rfl, rfl⟩)
        go_round
        case rel => exact ⟨k + 1, by simp only [fst] at hc; omega, by simpa using hc, by go_num⟩
        case measure => simp [intOf]; omega
      · go_wp2_with (go_at_call 106; refine (first_any (k + 1) (by omega) _).mono ?_; rintro e w' ⟨rfl, rfl⟩)
        go_ret
        exact ⟨ret_int (by simp only [fst, lev] at *; omega), rfl⟩
  · have hp : Hid (lev v = -1) := by show lev v = -1; simp only [lev]; repeat' split
                                     all_goals omega
    go_enter Tryz.func90, Tryz.ntmps90
    go_wp2_with (go_at_call 105; refine (isNode_no _ (by omega) _).mono ?_; rintro e w' ⟨rfl, rfl⟩)
    go_ret
    exact ⟨ret_int hp.out.symm, rfl⟩
end Go.Proofs.YtpimbpfefhkojaaGreat.Sh
/- Contracts of the document's answers: Node, Child, Parent, Which, Level, Leaf, Slot. -/
namespace Go.Proofs.YtpimbpfefhkojaaGreat.Sh
open Go.RowKit

theorem rNode_yes (v : Int) (h0 : 0 ≤ v) (h1 : v < 85) (w : World) :
    Calls Tryz.prog 54 #[.int .i64 v] w fun e w' => e = .returned (.bool true) ∧ w' = w := by
  go_enter Tryz.func54, Tryz.ntmps54
  go_wp2
  go_ret
  exact ⟨rfl, rfl⟩
theorem rNode_no (v : Int) (h : v < 0 ∨ 85 ≤ v) (w : World) :
    Calls Tryz.prog 54 #[.int .i64 v] w fun e w' => e = .returned (.bool false) ∧ w' = w := by
  by_cases h0 : 0 ≤ v
  · have h1 : decide (v < 85) = false := by simp; omega
    clear h
    go_enter Tryz.func54, Tryz.ntmps54
    go_wp2
    go_ret
    exact ⟨ret_bool (by first | rfl | exact h1), rfl⟩
  · clear h
    go_enter Tryz.func54, Tryz.ntmps54
    go_wp2
    go_ret
    exact ⟨rfl, rfl⟩
theorem rLeaf_any (v : Int) (w : World) :
    Calls Tryz.prog 30 #[.int .i64 v] w fun e w' => e = .returned (.int .i64 (lef v)) ∧ w' = w := by
  by_cases h0 : 0 ≤ v
  · by_cases h1 : v < 64
    · go_enter Tryz.func30, Tryz.ntmps30
      go_wp2
      go_ret
      exact ⟨ret_int (lef_yes h0 h1).symm, rfl⟩
    · have hp : Hid (lef v = -1) := lef_no (by omega)
      go_enter Tryz.func30, Tryz.ntmps30
      go_wp2
      go_ret
      exact ⟨ret_int hp.out.symm, rfl⟩
  · have hp : Hid (lef v = -1) := lef_no (by omega)
    go_enter Tryz.func30, Tryz.ntmps30
    go_wp2
    go_ret
    exact ⟨ret_int hp.out.symm, rfl⟩
theorem rChild_any (v i : Int) (w : World) :
    Calls Tryz.prog 40 #[.int .i64 v, .int .i64 i] w fun e w' => e = .returned (.int .i64 (chd v i)) ∧ w' = w := by
  by_cases h0 : 0 ≤ v
  · by_cases h1 : v < 21
    · by_cases h2 : 0 ≤ i
      · by_cases h3 : i < 4
        · go_enter Tryz.func40, Tryz.ntmps40
          go_wp2
          go_ret
          exact ⟨ret_int (chd_yes h0 h1 h2 h3).symm, rfl⟩
        · have hp : Hid (chd v i = -1) := chd_no (by omega)
          go_enter Tryz.func40, Tryz.ntmps40
          go_wp2
          go_ret
          exact ⟨ret_int hp.out.symm, rfl⟩
      · have hp : Hid (chd v i = -1) := chd_no (by omega)
        go_enter Tryz.func40, Tryz.ntmps40
        go_wp2
        go_ret
        exact ⟨ret_int hp.out.symm, rfl⟩
    · have hp : Hid (chd v i = -1) := chd_no (by omega)
      go_enter Tryz.func40, Tryz.ntmps40
      go_wp2
      go_ret
      exact ⟨ret_int hp.out.symm, rfl⟩
  · have hp : Hid (chd v i = -1) := chd_no (by omega)
    go_enter Tryz.func40, Tryz.ntmps40
    go_wp2
    go_ret
    exact ⟨ret_int hp.out.symm, rfl⟩
end Go.Proofs.YtpimbpfefhkojaaGreat.Sh
/- Contracts of the document's answers: Parent, Which, Level, Slot. -/
namespace Go.Proofs.YtpimbpfefhkojaaGreat.Sh
open Go.RowKit

theorem rChild_yes (v i : Int) (h0 : 0 ≤ v) (h1 : v < 21) (h2 : 0 ≤ i) (h3 : i < 4) (w : World) :
    Calls Tryz.prog 40 #[.int .i64 v, .int .i64 i] w fun e w' => e = .returned (.int .i64 (4 * v + 1 + i)) ∧ w' = w := by
  rw [← chd_yes h0 h1 h2 h3]; exact rChild_any v i w

theorem rParent_any (v : Int) (w : World) :
    Calls Tryz.prog 31 #[.int .i64 v] w fun e w' => e = .returned (.int .i64 (par v)) ∧ w' = w := by
  by_cases h0 : 1 ≤ v
  · by_cases h1 : v < 85
    · have hp : Hid (par v = (v - 1) / 4) := par_yes h0 h1
      go_enter Tryz.func31, Tryz.ntmps31
      go_wp2
      go_loop [3, 4] (fun p _ => ∃ k : Nat, k ≤ 20 ∧ 4 * (k : Int) + 1 ≤ v ∧ p = .int .i64 k) (fun p _ => 21 - (intOf p).toNat)
      case atStart => exact ⟨0, by omega, by omega, rfl⟩
      case round =>
        obtain ⟨k, hk, hf, rfl⟩ := hrel
        go_wp2
        go_loop [4] (fun i => ∃ j : Nat, j ≤ 4 ∧ 4 * (k : Int) + 1 + j ≤ v ∧ i = .int .i64 j) (fun i => 4 - (intOf i).toNat)
        case atStart => exact ⟨0, by omega, by omega, rfl⟩
        case round =>
          obtain ⟨j, hj, hg, rfl⟩ := hrel
          by_cases hlt : j < 4
          · by_cases heq : 4 * (k : Int) + 1 + j = v
            · have hb : (4 * (k : Int) + 1 + j == v) = true := by simpa using heq
              have hq : Hid ((k : Int) = par v) := by show (k : Int) = par v; rw [hp.out]; omega
              clear heq
              go_wp2_with (go_at_call 40; refine (rChild_yes _ _ (by omega) (by omega) (by omega) (by omega) _).mono ?_; rintro e w' ⟨rfl, rfl⟩)
              go_ret
              exact ⟨ret_int hq.out, rfl⟩
            · have hb : (4 * (k : Int) + 1 + j == v) = false := by simpa using heq
              go_wp2_with (go_at_call 40; refine (rChild_yes _ _ (by omega) (by omega) (by omega) (by omega) _).mono ?_; rintro e w' ⟨rfl, rfl⟩)
              go_round
              case rel => exact ⟨j + 1, by omega, by omega, by go_num⟩
              case measure => simp [intOf]; omega
          · go_wp2
            go_round
            case rel => exact ⟨k + 1, by omega, by omega, by go_num⟩
            case measure => simp [intOf]; omega
    · have hp : Hid (par v = -1) := par_no (by omega)
      go_enter Tryz.func31, Tryz.ntmps31
      go_wp2
      go_ret
      exact ⟨ret_int hp.out.symm, rfl⟩
  · have hp : Hid (par v = -1) := par_no (by omega)
    go_enter Tryz.func31, Tryz.ntmps31
    go_wp2
    go_ret
    exact ⟨ret_int hp.out.symm, rfl⟩

end Go.Proofs.YtpimbpfefhkojaaGreat.Sh
