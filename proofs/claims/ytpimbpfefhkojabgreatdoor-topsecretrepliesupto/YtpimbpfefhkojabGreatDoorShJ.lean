/- ShpMath, ShpMath2, ShpMath3, ShpA, ShpB, ShpC, ShpD, joined. -/
import Derived.WalkKit
import Derived.ProofKit
import Derived.Laws.Bits64
import Derived.Laws.BitsAllLaws
import Derived.Test.YtpimbpfefhkojabGreatDoorChecked
namespace Go.Proofs.YtpimbpfefhkojabGreatDoor.Sh
open Go.RowKit

theorem ret_int {k : IntKind} {a b : Int} (h : a = b) : Ending.returned (.int k a) = .returned (.int k b) := by rw [h]
theorem ret_bool {a b : Bool} (h : a = b) : Ending.returned (.bool a) = .returned (.bool b) := by rw [h]

def par (v : Int) : Int := if 1 ≤ v ∧ v < 85 then (v - 1) / 4 else -1
def chd (v i : Int) : Int := if 0 ≤ v ∧ v < 21 ∧ 0 ≤ i ∧ i < 4 then 4 * v + 1 + i else -1
def lef (s : Int) : Int := if 0 ≤ s ∧ s < 64 then 21 + s else -1
def slo (v : Int) : Int := if 21 ≤ v ∧ v < 85 then v - 21 else -1
def lev (v : Int) : Int := if v < 0 then -1 else if v < 1 then 0 else if v < 5 then 1 else if v < 21 then 2 else if v < 85 then 3 else -1
def fst (k : Int) : Int := if k < 1 then 0 else if k < 2 then 1 else if k < 3 then 5 else if k < 4 then 21 else 85
def nodeB (v : Int) : Bool := decide (0 ≤ v ∧ v < 85)

theorem par_yes {v : Int} (h0 : 1 ≤ v) (h1 : v < 85) : par v = (v - 1) / 4 := by simp [par, h0, h1]
theorem par_no {v : Int} (h : v < 1 ∨ 85 ≤ v) : par v = -1 := by simp [par]; omega
theorem chd_yes {v i : Int} (h0 : 0 ≤ v) (h1 : v < 21) (h2 : 0 ≤ i) (h3 : i < 4) : chd v i = 4 * v + 1 + i := by simp [chd, h0, h1, h2, h3]
theorem chd_no {v i : Int} (h : v < 0 ∨ 21 ≤ v ∨ i < 0 ∨ 4 ≤ i) : chd v i = -1 := by simp [chd]; omega
theorem lef_yes {v : Int} (h0 : 0 ≤ v) (h1 : v < 64) : lef v = 21 + v := by simp [lef, h0, h1]
theorem lef_no {v : Int} (h : v < 0 ∨ 64 ≤ v) : lef v = -1 := by simp [lef]; omega
theorem slo_yes {v : Int} (h0 : 21 ≤ v) (h1 : v < 85) : slo v = v - 21 := by simp [slo, h0, h1]
theorem slo_no {v : Int} (h : v < 21 ∨ 85 ≤ v) : slo v = -1 := by simp [slo]; omega
theorem nodeB_no {v : Int} (h : v < 0 ∨ 85 ≤ v) : nodeB v = false := by simp [nodeB]; omega

theorem and3u_64 : ∀ n : Fin 64, bits .and .u8 (n.val : Int) 3 = (n.val : Int) % 4 := by decide +kernel
theorem and3u (x : Int) (h0 : 0 ≤ x) (h1 : x < 64) : bits .and .u8 x 3 = x % 4 := by
  have h := and3u_64 ⟨x.toNat, by omega⟩
  rwa [Int.toNat_of_nonneg h0] at h
theorem lev_leaf {v : Int} (h0 : 21 ≤ v) (h1 : v < 85) : lev v = 3 := by
  simp only [lev]; repeat' split
  all_goals omega
theorem lev_bd {v : Int} (h0 : 0 ≤ v) (h1 : v < 85) : 0 ≤ lev v ∧ lev v ≤ 3 := by
  simp only [lev]; repeat' split
  all_goals omega

def belB (v w : Int) : Bool := nodeB v && nodeB w && (v == w || v == par w || v == par (par w) || v == par (par (par w)))
def mskTo (v : Int) : Nat → Int
  | 0 => 0
  | n + 1 => mskTo v n + if belB v (21 + n) then 2 ^ n else 0
def msk (v : Int) : Int := mskTo v 64
theorem mskTo_bd (v : Int) : ∀ n, 0 ≤ mskTo v n ∧ mskTo v n < 2 ^ n
  | 0 => by simp [mskTo]
  | n + 1 => by
    have := mskTo_bd v n
    simp only [mskTo, Int.pow_succ]
    split <;> omega
theorem belB_no {v w : Int} (h : nodeB v = false) : belB v w = false := by simp [belB, h]
theorem belB_no' {v w : Int} (h : nodeB w = false) : belB v w = false := by simp [belB, h]
theorem mskTo_no {v : Int} (h : nodeB v = false) : ∀ n, mskTo v n = 0
  | 0 => rfl
  | n + 1 => by simp [mskTo, mskTo_no h n, belB_no h]
theorem msk_no {v : Int} (h : v < 0 ∨ 85 ≤ v) : msk v = 0 := mskTo_no (nodeB_no h) 64

/-- The four levels: a mask is a row of ones, shifted. -/
theorem msk3_all : ∀ n : Fin 64, IntKind.u64.wrap (2 ^ ((n.val : Int)).toNat) = msk (21 + n.val) := by decide +kernel
theorem msk2_all : ∀ n : Fin 16, IntKind.u64.wrap (15 * 2 ^ ((n.val : Int) * 4).toNat) = msk (5 + n.val) := by decide +kernel
theorem msk1_all : ∀ n : Fin 4, IntKind.u64.wrap (65535 * 2 ^ ((n.val : Int) * 16).toNat) = msk (1 + n.val) := by decide +kernel
theorem msk0_all : msk 0 = 18446744073709551615 := by decide +kernel
theorem msk3_of {v : Int} (h0 : 21 ≤ v) (h1 : v < 85) : IntKind.u64.wrap (2 ^ (v - 21).toNat) = msk v := by
  have h := msk3_all ⟨(v - 21).toNat, by omega⟩
  simp only [Int.toNat_of_nonneg (show 0 ≤ v - 21 by omega)] at h
  rw [h]; congr 1; omega
theorem msk2_of {v : Int} (h0 : 5 ≤ v) (h1 : v < 21) : IntKind.u64.wrap (15 * 2 ^ ((v - 5) * 4).toNat) = msk v := by
  have h := msk2_all ⟨(v - 5).toNat, by omega⟩
  simp only [Int.toNat_of_nonneg (show 0 ≤ v - 5 by omega)] at h
  rw [h]; congr 1; omega
theorem msk1_of {v : Int} (h0 : 1 ≤ v) (h1 : v < 5) : IntKind.u64.wrap (65535 * 2 ^ ((v - 1) * 16).toNat) = msk v := by
  have h := msk1_all ⟨(v - 1).toNat, by omega⟩
  simp only [Int.toNat_of_nonneg (show 0 ≤ v - 1 by omega)] at h
  rw [h]; congr 1; omega
theorem lev1 {v : Int} (h0 : 1 ≤ v) (h1 : v < 5) : lev v = 1 := by simp only [lev]; repeat' split
                                                                   all_goals omega
theorem lev2 {v : Int} (h0 : 5 ≤ v) (h1 : v < 21) : lev v = 2 := by simp only [lev]; repeat' split
                                                                    all_goals omega

theorem par_bd {v : Int} (h0 : 1 ≤ v) (h1 : v < 85) : 0 ≤ par v ∧ par v < v := by rw [par_yes h0 h1]; omega

def hasB (X : Int) (s : Nat) : Bool := X / 2 ^ s % 2 == 1
def hitTo (X v : Int) : Nat → Bool
  | 0 => false
  | n + 1 => hitTo X v n || (hasB X n && belB v (21 + n))
def abvTo (X : Int) : Nat → Int
  | 0 => 0
  | n + 1 => abvTo X n + if hitTo X n 64 then 2 ^ n else 0
theorem abvTo_bd (X : Int) : ∀ n, 0 ≤ abvTo X n ∧ abvTo X n < 2 ^ n
  | 0 => by simp [abvTo]
  | n + 1 => by
    have := abvTo_bd X n
    simp only [abvTo, Int.pow_succ]
    split <;> omega
theorem pow_le_20 : ∀ n : Fin 21, (2 : Int) ^ n.val ≤ 1048576 := by decide +kernel
theorem pow_le21 (n : Nat) (h : n < 21) : (2 : Int) ^ n ≤ 1048576 := pow_le_20 ⟨n, h⟩
theorem below_all : ∀ v w : Fin 85, (v.val < w.val → belB v.val w.val = belB v.val (par w.val)) ∧ (w.val ≤ v.val → belB v.val w.val = ((w.val : Int) == v.val)) := by decide +kernel
theorem belB_up {v w : Int} (h0 : 0 ≤ v) (h1 : v < w) (h2 : w < 85) : belB v w = belB v (par w) := by
  have h := (below_all ⟨v.toNat, by omega⟩ ⟨w.toNat, by omega⟩).1 (by simp; omega)
  simpa [Int.toNat_of_nonneg h0, Int.toNat_of_nonneg (show 0 ≤ w by omega)] using h
theorem belB_at {v w : Int} (h0 : 0 ≤ w) (h1 : w ≤ v) (h2 : v < 85) : belB v w = (w == v) := by
  have h := (below_all ⟨v.toNat, by omega⟩ ⟨w.toNat, by omega⟩).2 (by simp; omega)
  simpa [Int.toNat_of_nonneg h0, Int.toNat_of_nonneg (show 0 ≤ v by omega)] using h

/-- The mask's bits. -/
def mN (v : Int) : Nat → Nat
  | 0 => 0
  | n + 1 => (if belB v (21 + n) then 2 ^ n else 0) + mN v n
theorem mN_lt (v : Int) : ∀ n, mN v n < 2 ^ n
  | 0 => by simp [mN]
  | n + 1 => by
    have := mN_lt v n
    simp only [mN, Nat.pow_succ]
    split <;> omega
theorem mskTo_mN (v : Int) : ∀ n, mskTo v n = (mN v n : Int)
  | 0 => rfl
  | n + 1 => by
    simp only [mskTo, mN, mskTo_mN v n]
    split <;> push_cast <;> omega
theorem mN_bit (v : Int) : ∀ n i, (mN v n).testBit i = (decide (i < n) && belB v (21 + i))
  | 0, i => by simp [mN]
  | n + 1, i => by
    simp only [mN]
    have ih := mN_bit v n
    have hl := mN_lt v n
    by_cases hb : belB v (21 + n) = true
    · rw [if_pos hb]
      rcases Nat.lt_trichotomy i n with h | h | h
      · rw [Nat.testBit_two_pow_add_gt h, ih i]
        have : i < n + 1 := by omega
        simp [h, this]
      · subst h
        rw [Nat.testBit_two_pow_add_eq, Nat.testBit_lt_two_pow hl]
        simp [hb]
      · rw [Nat.testBit_lt_two_pow (Nat.lt_of_lt_of_le (show 2 ^ n + mN v n < 2 ^ (n + 1) by rw [Nat.pow_succ]; omega) (Nat.pow_le_pow_right (by omega) h))]
        have : ¬ i < n + 1 := by omega
        simp [this]
    · rw [if_neg hb, Nat.zero_add, ih i]
      rcases Nat.lt_trichotomy i n with h | h | h
      · have : i < n + 1 := by omega
        simp [h, this]
      · subst h
        simp at hb
        simp [hb]
      · have h1 : ¬ i < n := by omega
        have h2 : ¬ i < n + 1 := by omega
        simp [h1, h2]
theorem hasB_bit (X : Nat) (s : Nat) : hasB (X : Int) s = X.testBit s := by
  rw [Nat.testBit_eq_decide_div_mod_eq, hasB]
  have e : ((X : Int) / 2 ^ s % 2) = ((X / 2 ^ s % 2 : Nat) : Int) := by push_cast; rfl
  rw [e]
  generalize X / 2 ^ s % 2 = q
  rw [Bool.eq_iff_iff, beq_iff_eq, decide_eq_true_eq]
  omega
theorem hitTo_iff (X v : Int) : ∀ n, hitTo X v n = true ↔ ∃ s, s < n ∧ hasB X s = true ∧ belB v (21 + s) = true
  | 0 => by simp [hitTo]
  | n + 1 => by
    simp only [hitTo, Bool.or_eq_true, Bool.and_eq_true, hitTo_iff X v n]
    constructor
    · rintro (⟨s, h, a, b⟩ | ⟨a, b⟩)
      · exact ⟨s, by omega, a, b⟩
      · exact ⟨n, by omega, a, b⟩
    · rintro ⟨s, h, a, b⟩
      by_cases e : s = n
      · subst e; exact .inr ⟨a, b⟩
      · exact .inl ⟨s, by omega, a, b⟩
theorem hit_and (v X : Int) (h0 : 0 ≤ X) (h1 : X < 18446744073709551616) : (bits .and .u64 (msk v) X != 0) = hitTo X v 64 := by
  obtain ⟨x, rfl⟩ := Int.eq_ofNat_of_zero_le h0
  have hx : x < 18446744073709551616 := by omega
  have hm := mN_lt v 64
  rw [msk, mskTo_mN, u64_and_nat _ _ (by simpa using hm) hx]
  rw [Bool.eq_iff_iff, hitTo_iff]
  constructor
  · intro h
    have hne : mN v 64 &&& x ≠ 0 := by intro e; rw [e] at h; simp at h
    obtain ⟨i, hi⟩ := Nat.exists_testBit_of_ne_zero hne
    rw [Nat.testBit_and, mN_bit] at hi
    simp only [Bool.and_eq_true, decide_eq_true_eq] at hi
    exact ⟨i, hi.1.1, by rw [hasB_bit]; exact hi.2, hi.1.2⟩
  · rintro ⟨s, hs, ha, hb⟩
    rw [hasB_bit] at ha
    have : (mN v 64 &&& x).testBit s = true := by rw [Nat.testBit_and, mN_bit]; simp [hs, ha, hb]
    have hne : mN v 64 &&& x ≠ 0 := by intro e; rw [e] at this; simp at this
    simp; omega
theorem or_unit (A : Int) (k : Nat) (hk : k < 21) (h0 : 0 ≤ A) (h1 : A < 2 ^ k) : bits .or .u32 A (2 ^ k % 4294967296) = A + 2 ^ k := by
  have hp := pow_le21 k hk
  obtain ⟨a, rfl⟩ := Int.eq_ofNat_of_zero_le h0
  have hc : ((2 : Int) ^ k) = ((2 ^ k : Nat) : Int) := by push_cast; rfl
  rw [hc] at hp h1 ⊢
  rw [Int.emod_eq_of_lt (by omega) (by omega), u32_or_nat _ _ (by omega) (by omega), Nat.or_comm, nat_join k (2 ^ k) a (by simp) (by omega)]
  omega
theorem msk_bd (v : Int) : 0 ≤ msk v ∧ msk v < 18446744073709551616 := mskTo_bd v 64

theorem isNode_yes (v : Int) (h0 : 0 ≤ v) (h1 : v < 85) (w : World) :
    Calls Tryz.prog 95 #[.int .i64 v] w fun e w' => e = .returned (.bool true) ∧ w' = w := by
  go_enter Tryz.func95, Tryz.ntmps95
  go_wp2
  go_ret
  exact ⟨rfl, rfl⟩
theorem isNode_no (v : Int) (h : v < 0 ∨ 85 ≤ v) (w : World) :
    Calls Tryz.prog 95 #[.int .i64 v] w fun e w' => e = .returned (.bool false) ∧ w' = w := by
  by_cases h0 : 0 ≤ v
  · have h1 : decide (v < 85) = false := by simp; omega
    clear h
    go_enter Tryz.func95, Tryz.ntmps95
    go_wp2
    go_ret
    exact ⟨ret_bool (by first | rfl | exact h1), rfl⟩
  · clear h
    go_enter Tryz.func95, Tryz.ntmps95
    go_wp2
    go_ret
    exact ⟨rfl, rfl⟩
theorem isInner_yes (v : Int) (h0 : 0 ≤ v) (h1 : v < 21) (w : World) :
    Calls Tryz.prog 94 #[.int .i64 v] w fun e w' => e = .returned (.bool true) ∧ w' = w := by
  go_enter Tryz.func94, Tryz.ntmps94
  go_wp2
  go_ret
  exact ⟨rfl, rfl⟩
theorem isInner_no (v : Int) (h : v < 0 ∨ 21 ≤ v) (w : World) :
    Calls Tryz.prog 94 #[.int .i64 v] w fun e w' => e = .returned (.bool false) ∧ w' = w := by
  by_cases h0 : 0 ≤ v
  · have h1 : decide (v < 21) = false := by simp; omega
    clear h
    go_enter Tryz.func94, Tryz.ntmps94
    go_wp2
    go_ret
    exact ⟨ret_bool (by first | rfl | exact h1), rfl⟩
  · clear h
    go_enter Tryz.func94, Tryz.ntmps94
    go_wp2
    go_ret
    exact ⟨rfl, rfl⟩

theorem child_any (v i : Int) (w : World) :
    Calls Tryz.prog 62 #[.int .i64 v, .int .i64 i] w fun e w' => e = .returned (.int .i64 (chd v i)) ∧ w' = w := by
  by_cases h : 0 ≤ v ∧ v < 21
  · obtain ⟨h0, h1⟩ := h
    by_cases h2 : 0 ≤ i
    · by_cases h3 : i < 4
      · go_enter Tryz.func62, Tryz.ntmps62
        go_wp2_with (go_at_call 94; refine (isInner_yes _ (by omega) (by omega) _).mono ?_; rintro e w' ⟨rfl, rfl⟩)
        go_ret
        exact ⟨ret_int (by rw [chd_yes h0 h1 h2 h3]; omega), rfl⟩
      · have hp : Hid (chd v i = -1) := chd_no (by omega)
        go_enter Tryz.func62, Tryz.ntmps62
        go_wp2_with (go_at_call 94; refine (isInner_yes _ (by omega) (by omega) _).mono ?_; rintro e w' ⟨rfl, rfl⟩)
        go_ret
        exact ⟨ret_int hp.out.symm, rfl⟩
    · have hp : Hid (chd v i = -1) := chd_no (by omega)
      go_enter Tryz.func62, Tryz.ntmps62
      go_wp2_with (go_at_call 94; refine (isInner_yes _ (by omega) (by omega) _).mono ?_; rintro e w' ⟨rfl, rfl⟩)
      go_ret
      exact ⟨ret_int hp.out.symm, rfl⟩
  · have hp : Hid (chd v i = -1) := chd_no (by omega)
    go_enter Tryz.func62, Tryz.ntmps62
    go_wp2_with (go_at_call 94; refine (isInner_no _ (by omega) _).mono ?_; rintro e w' ⟨rfl, rfl⟩)
    go_ret
    exact ⟨ret_int hp.out.symm, rfl⟩

theorem isSlot_yes (v : Int) (h0 : 0 ≤ v) (h1 : v < 64) (w : World) :
    Calls Tryz.prog 99 #[.int .i64 v] w fun e w' => e = .returned (.bool true) ∧ w' = w := by
  go_enter Tryz.func99, Tryz.ntmps99
  go_wp2
  go_ret
  exact ⟨rfl, rfl⟩
theorem isSlot_no (v : Int) (h : v < 0 ∨ 64 ≤ v) (w : World) :
    Calls Tryz.prog 99 #[.int .i64 v] w fun e w' => e = .returned (.bool false) ∧ w' = w := by
  by_cases h0 : 0 ≤ v
  · have h1 : decide (v < 64) = false := by simp; omega
    clear h
    go_enter Tryz.func99, Tryz.ntmps99
    go_wp2
    go_ret
    exact ⟨ret_bool (by first | rfl | exact h1), rfl⟩
  · clear h
    go_enter Tryz.func99, Tryz.ntmps99
    go_wp2
    go_ret
    exact ⟨rfl, rfl⟩
theorem leaf_any (v : Int) (w : World) :
    Calls Tryz.prog 65 #[.int .i64 v] w fun e w' => e = .returned (.int .i64 (lef v)) ∧ w' = w := by
  by_cases h : 0 ≤ v ∧ v < 64
  · obtain ⟨h0, h1⟩ := h
    go_enter Tryz.func65, Tryz.ntmps65
    go_wp2_with (go_at_call 99; refine (isSlot_yes _ (by omega) (by omega) _).mono ?_; rintro e w' ⟨rfl, rfl⟩)
    go_ret
    exact ⟨ret_int (lef_yes h0 h1).symm, rfl⟩
  · have hp : Hid (lef v = -1) := lef_no (by omega)
    go_enter Tryz.func65, Tryz.ntmps65
    go_wp2_with (go_at_call 99; refine (isSlot_no _ (by omega) _).mono ?_; rintro e w' ⟨rfl, rfl⟩)
    go_ret
    exact ⟨ret_int hp.out.symm, rfl⟩
theorem slot_any (v : Int) (w : World) :
    Calls Tryz.prog 91 #[.int .i64 v] w fun e w' => e = .returned (.int .i64 (slo v)) ∧ w' = w := by
  by_cases h : 0 ≤ v ∧ v < 85
  · obtain ⟨h0, h1⟩ := h
    by_cases h2 : v < 21
    · have hp : Hid (slo v = -1) := slo_no (by omega)
      go_enter Tryz.func91, Tryz.ntmps91
      go_wp2_with (first | (go_at_call 95; refine (isNode_yes _ (by omega) (by omega) _).mono ?_; rintro e w' ⟨rfl, rfl⟩) | (go_at_call 94; refine (isInner_yes _ (by omega) (by omega) _).mono ?_; rintro e w' ⟨rfl, rfl⟩))
      go_ret
      exact ⟨ret_int hp.out.symm, rfl⟩
    · go_enter Tryz.func91, Tryz.ntmps91
      go_wp2_with (first | (go_at_call 95; refine (isNode_yes _ (by omega) (by omega) _).mono ?_; rintro e w' ⟨rfl, rfl⟩) | (go_at_call 94; refine (isInner_no _ (by omega) _).mono ?_; rintro e w' ⟨rfl, rfl⟩))
      go_ret
      exact ⟨ret_int (slo_yes (by omega) (by omega)).symm, rfl⟩
  · have hp : Hid (slo v = -1) := slo_no (by omega)
    go_enter Tryz.func91, Tryz.ntmps91
    go_wp2_with (go_at_call 95; refine (isNode_no _ (by omega) _).mono ?_; rintro e w' ⟨rfl, rfl⟩)
    go_ret
    exact ⟨ret_int hp.out.symm, rfl⟩

theorem first_any (k : Nat) (h : k ≤ 4) (w : World) :
    Calls Tryz.prog 97 #[.int .i64 (k : Int)] w fun e w' => e = .returned (.int .i64 (fst k)) ∧ w' = w := by
  match k, h with
  | 0, _ => go_enter Tryz.func97, Tryz.ntmps97; go_wp2; go_ret; exact ⟨rfl, rfl⟩
  | 1, _ => go_enter Tryz.func97, Tryz.ntmps97; go_wp2; go_ret; exact ⟨rfl, rfl⟩
  | 2, _ => go_enter Tryz.func97, Tryz.ntmps97; go_wp2; go_ret; exact ⟨rfl, rfl⟩
  | 3, _ => go_enter Tryz.func97, Tryz.ntmps97; go_wp2; go_ret; exact ⟨rfl, rfl⟩
  | 4, _ => go_enter Tryz.func97, Tryz.ntmps97; go_wp2; go_ret; exact ⟨rfl, rfl⟩

theorem level_any (v : Int) (w : World) :
    Calls Tryz.prog 96 #[.int .i64 v] w fun e w' => e = .returned (.int .i64 (lev v)) ∧ w' = w := by
  by_cases h : 0 ≤ v ∧ v < 85
  · obtain ⟨h0, h1⟩ := h
    go_enter Tryz.func96, Tryz.ntmps96
    go_wp2_with (go_at_call 95; refine (isNode_yes _ (by omega) (by omega) _).mono ?_; rintro e w' ⟨rfl, rfl⟩)
    go_loop [3] (fun t => ∃ k : Nat, k ≤ 3 ∧ fst k ≤ v ∧ t = .int .i64 k) (fun t => 4 - (intOf t).toNat)
    case atStart => exact ⟨0, by omega, by simpa [fst] using h0, rfl⟩
    case round =>
      obtain ⟨k, hk, hf, rfl⟩ := hrel
      by_cases hc : fst ((k : Int) + 1) ≤ v
      · go_wp2_with (go_at_call 97; refine (first_any (k + 1) (by omega) _).mono ?_; rintro e w' ⟨rfl, rfl⟩)
        go_round
        case rel => exact ⟨k + 1, by simp only [fst] at hc; omega, by simpa using hc, by go_num⟩
        case measure => simp [intOf]; omega
      · go_wp2_with (go_at_call 97; refine (first_any (k + 1) (by omega) _).mono ?_; rintro e w' ⟨rfl, rfl⟩)
        go_ret
        exact ⟨ret_int (by simp only [fst, lev] at *; omega), rfl⟩
  · have hp : Hid (lev v = -1) := by show lev v = -1; simp only [lev]; repeat' split
                                     all_goals omega
    go_enter Tryz.func96, Tryz.ntmps96
    go_wp2_with (go_at_call 95; refine (isNode_no _ (by omega) _).mono ?_; rintro e w' ⟨rfl, rfl⟩)
    go_ret
    exact ⟨ret_int hp.out.symm, rfl⟩

theorem rNode_yes (v : Int) (h0 : 0 ≤ v) (h1 : v < 85) (w : World) :
    Calls Tryz.prog 84 #[.int .i64 v] w fun e w' => e = .returned (.bool true) ∧ w' = w := by
  go_enter Tryz.func84, Tryz.ntmps84
  go_wp2
  go_ret
  exact ⟨rfl, rfl⟩
theorem rNode_no (v : Int) (h : v < 0 ∨ 85 ≤ v) (w : World) :
    Calls Tryz.prog 84 #[.int .i64 v] w fun e w' => e = .returned (.bool false) ∧ w' = w := by
  by_cases h0 : 0 ≤ v
  · have h1 : decide (v < 85) = false := by simp; omega
    clear h
    go_enter Tryz.func84, Tryz.ntmps84
    go_wp2
    go_ret
    exact ⟨ret_bool (by first | rfl | exact h1), rfl⟩
  · clear h
    go_enter Tryz.func84, Tryz.ntmps84
    go_wp2
    go_ret
    exact ⟨rfl, rfl⟩
theorem rLeaf_any (v : Int) (w : World) :
    Calls Tryz.prog 47 #[.int .i64 v] w fun e w' => e = .returned (.int .i64 (lef v)) ∧ w' = w := by
  by_cases h0 : 0 ≤ v
  · by_cases h1 : v < 64
    · go_enter Tryz.func47, Tryz.ntmps47
      go_wp2
      go_ret
      exact ⟨ret_int (lef_yes h0 h1).symm, rfl⟩
    · have hp : Hid (lef v = -1) := lef_no (by omega)
      go_enter Tryz.func47, Tryz.ntmps47
      go_wp2
      go_ret
      exact ⟨ret_int hp.out.symm, rfl⟩
  · have hp : Hid (lef v = -1) := lef_no (by omega)
    go_enter Tryz.func47, Tryz.ntmps47
    go_wp2
    go_ret
    exact ⟨ret_int hp.out.symm, rfl⟩
theorem rChild_any (v i : Int) (w : World) :
    Calls Tryz.prog 103 #[.int .i64 v, .int .i64 i] w fun e w' => e = .returned (.int .i64 (chd v i)) ∧ w' = w := by
  by_cases h0 : 0 ≤ v
  · by_cases h1 : v < 21
    · by_cases h2 : 0 ≤ i
      · by_cases h3 : i < 4
        · go_enter Tryz.func103, Tryz.ntmps103
          go_wp2
          go_ret
          exact ⟨ret_int (chd_yes h0 h1 h2 h3).symm, rfl⟩
        · have hp : Hid (chd v i = -1) := chd_no (by omega)
          go_enter Tryz.func103, Tryz.ntmps103
          go_wp2
          go_ret
          exact ⟨ret_int hp.out.symm, rfl⟩
      · have hp : Hid (chd v i = -1) := chd_no (by omega)
        go_enter Tryz.func103, Tryz.ntmps103
        go_wp2
        go_ret
        exact ⟨ret_int hp.out.symm, rfl⟩
    · have hp : Hid (chd v i = -1) := chd_no (by omega)
      go_enter Tryz.func103, Tryz.ntmps103
      go_wp2
      go_ret
      exact ⟨ret_int hp.out.symm, rfl⟩
  · have hp : Hid (chd v i = -1) := chd_no (by omega)
    go_enter Tryz.func103, Tryz.ntmps103
    go_wp2
    go_ret
    exact ⟨ret_int hp.out.symm, rfl⟩

theorem rChild_yes (v i : Int) (h0 : 0 ≤ v) (h1 : v < 21) (h2 : 0 ≤ i) (h3 : i < 4) (w : World) :
    Calls Tryz.prog 103 #[.int .i64 v, .int .i64 i] w fun e w' => e = .returned (.int .i64 (4 * v + 1 + i)) ∧ w' = w := by
  rw [← chd_yes h0 h1 h2 h3]; exact rChild_any v i w

theorem rParent_any (v : Int) (w : World) :
    Calls Tryz.prog 85 #[.int .i64 v] w fun e w' => e = .returned (.int .i64 (par v)) ∧ w' = w := by
  by_cases h0 : 1 ≤ v
  · by_cases h1 : v < 85
    · have hp : Hid (par v = (v - 1) / 4) := par_yes h0 h1
      go_enter Tryz.func85, Tryz.ntmps85
      go_wp2
      go_loop [3, 4] (fun p _ => ∃ k : Nat, k ≤ 20 ∧ 4 * (k : Int) + 1 ≤ v ∧ p = .int .i64 k) (fun p _ => 21 - (intOf p).toNat)
      case atStart => exact ⟨0, by omega, by omega, rfl⟩
      case round =>
        obtain ⟨k, hk, hf, rfl⟩ := hrel
        go_wp2
        go_loop [4] (fun i => ∃ j : Nat, j ≤ 4 ∧ 4 * (k : Int) + 1 + j ≤ v ∧ i = .int .i64 j) (fun i => 4 - (intOf i).toNat)
        case atStart => exact ⟨0, by omega, by omega, rfl⟩
        case round =>
          obtain ⟨j, hj, hg, rfl⟩ := hrel
          by_cases hlt : j < 4
          · by_cases heq : 4 * (k : Int) + 1 + j = v
            · have hb : (4 * (k : Int) + 1 + j == v) = true := by simpa using heq
              have hq : Hid ((k : Int) = par v) := by show (k : Int) = par v; rw [hp.out]; omega
              clear heq
              go_wp2_with (go_at_call 103; refine (rChild_yes _ _ (by omega) (by omega) (by omega) (by omega) _).mono ?_; rintro e w' ⟨rfl, rfl⟩)
              go_ret
              exact ⟨ret_int hq.out, rfl⟩
            · have hb : (4 * (k : Int) + 1 + j == v) = false := by simpa using heq
              go_wp2_with (go_at_call 103; refine (rChild_yes _ _ (by omega) (by omega) (by omega) (by omega) _).mono ?_; rintro e w' ⟨rfl, rfl⟩)
              go_round
              case rel => exact ⟨j + 1, by omega, by omega, by go_num⟩
              case measure => simp [intOf]; omega
          · go_wp2
            go_round
            case rel => exact ⟨k + 1, by omega, by omega, by go_num⟩
            case measure => simp [intOf]; omega
    · have hp : Hid (par v = -1) := par_no (by omega)
      go_enter Tryz.func85, Tryz.ntmps85
      go_wp2
      go_ret
      exact ⟨ret_int hp.out.symm, rfl⟩
  · have hp : Hid (par v = -1) := par_no (by omega)
    go_enter Tryz.func85, Tryz.ntmps85
    go_wp2
    go_ret
    exact ⟨ret_int hp.out.symm, rfl⟩

end Go.Proofs.YtpimbpfefhkojabGreatDoor.Sh
