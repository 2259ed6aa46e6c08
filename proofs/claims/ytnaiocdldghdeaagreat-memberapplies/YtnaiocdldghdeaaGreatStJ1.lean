/- StMath, StA, StPop, StB, joined. -/
import Derived.Lib.TrailingZeros
import Derived.Laws.BitsAllLaws
import Derived.Test.YtnaiocdldghdeaaGreatChecked
import Derived.WalkKit
import Derived.ProofKit
import Derived.Below
import Derived.WalkSpells
import Derived.Laws.ShiftsVarLaws
import Derived.Laws.Bits128
/- Sets of slots on plain numbers: a number's bits, as a list of places, as a count, and the like. -/
namespace Go.Proofs.YtnaiocdldghdeaaGreat.Rs
set_option linter.unusedVariables false

/- The n places from p on whose bits are set. -/
def bf (s p : Nat) : Nat → List Nat
  | 0 => []
  | n + 1 => if s.testBit p then p :: bf s (p + 1) n else bf s (p + 1) n
/- The set's places. -/
def bl (s : Nat) : List Nat := bf s 0 64
theorem bf_congr {s t : Nat} : ∀ (n p : Nat), (∀ i, p ≤ i → i < p + n → s.testBit i = t.testBit i) → bf s p n = bf t p n
  | 0, _, _ => rfl
  | n + 1, p, h => by
    rw [bf, bf, h p (Nat.le_refl _) (by omega), bf_congr n (p + 1) fun i h1 h2 => h i (by omega) (by omega)]
theorem bf_none {s : Nat} : ∀ (n p : Nat), (∀ i, p ≤ i → i < p + n → s.testBit i = false) → bf s p n = []
  | 0, _, _ => rfl
  | n + 1, p, h => by
    rw [bf, h p (Nat.le_refl _) (by omega), bf_none n (p + 1) fun i h1 h2 => h i (by omega) (by omega)]
    rfl
theorem bf_skip {s : Nat} : ∀ (d n p : Nat), d ≤ n → (∀ i, p ≤ i → i < p + d → s.testBit i = false) → bf s p n = bf s (p + d) (n - d)
  | 0, n, p, _, _ => rfl
  | d + 1, 0, p, hd, _ => by omega
  | d + 1, n + 1, p, hd, h => by
    rw [bf, h p (Nat.le_refl _) (by omega), show n + 1 - (d + 1) = n - d by omega, show p + (d + 1) = p + 1 + d by omega, ← bf_skip d n (p + 1) (by omega) fun i h1 h2 => h i (by omega) (by omega)]
    rfl
theorem bf_len_le (s : Nat) : ∀ (n p : Nat), (bf s p n).length ≤ n
  | 0, _ => Nat.le_refl _
  | n + 1, p => by
    have := bf_len_le s n (p + 1)
    rw [bf]
    split
    · simp; omega
    · omega
theorem mem_bf {s : Nat} : ∀ {n p i : Nat}, i ∈ bf s p n ↔ p ≤ i ∧ i < p + n ∧ s.testBit i = true
  | 0, p, i => by simp [bf]; omega
  | n + 1, p, i => by
    rw [bf]
    split
    · rename_i h
      rw [List.mem_cons, mem_bf]
      constructor
      · rintro (rfl | ⟨h1, h2, h3⟩)
        · exact ⟨by omega, by omega, h⟩
        · exact ⟨by omega, by omega, h3⟩
      · rintro ⟨h1, h2, h3⟩
        by_cases hi : i = p
        · exact .inl hi
        · exact .inr ⟨by omega, by omega, h3⟩
    · rename_i h
      rw [mem_bf]
      constructor
      · rintro ⟨h1, h2, h3⟩
        exact ⟨by omega, by omega, h3⟩
      · rintro ⟨h1, h2, h3⟩
        have hi : i ≠ p := by rintro rfl; exact h h3
        exact ⟨by omega, by omega, h3⟩
theorem bl_zero : bl 0 = [] := bf_none _ _ fun i _ _ => by simp
theorem bl_len (s : Nat) : (bl s).length ≤ 64 := bf_len_le _ _ _

/- The lowest bit: its place, and the number without it. -/
def tz (s : Nat) : Nat := Lib.ctz 64 s
theorem tz_spec {s : Nat} (h0 : s ≠ 0) (h : s < 18446744073709551616) : ∃ m, s = 2 ^ tz s * (2 * m + 1) ∧ tz s < 64 := by
  unfold tz Lib.ctz
  rw [if_neg h0]
  exact Lib.ctzFrom_spec 64 s (by omega) (by simpa using h)
theorem testBit_odd (k m i : Nat) : (2 ^ k * (2 * m + 1)).testBit i = (decide (k ≤ i) && (2 * m + 1).testBit (i - k)) := by
  rw [Nat.mul_comm, Nat.testBit_mul_two_pow]
theorem low_pred (k m : Nat) : 2 ^ k * (2 * m + 1) - 1 = 2 ^ (k + 1) * m + (2 ^ k - 1) := by
  have h : 0 < 2 ^ k := Nat.two_pow_pos k
  rw [Nat.mul_add, Nat.pow_succ, Nat.mul_one, Nat.mul_assoc]
  omega
theorem and_pred (k m : Nat) : (2 ^ k * (2 * m + 1)) &&& (2 ^ k * (2 * m + 1) - 1) = 2 ^ (k + 1) * m := by
  have hk : 0 < 2 ^ k := Nat.two_pow_pos k
  rw [low_pred]
  have hs : 2 ^ k * (2 * m + 1) = 2 ^ (k + 1) * m + 2 ^ k := by rw [Nat.mul_add, Nat.pow_succ, Nat.mul_one, Nat.mul_assoc]
  rw [hs]
  apply Nat.eq_of_testBit_eq
  intro i
  have hk1 : 2 ^ k < 2 ^ (k + 1) := by rw [Nat.pow_succ]; omega
  rw [Nat.testBit_and, Nat.testBit_two_pow_mul_add _ hk1, Nat.testBit_two_pow_mul_add _ (by omega : 2 ^ k - 1 < 2 ^ (k + 1)), Nat.mul_comm, Nat.testBit_mul_two_pow]
  by_cases hi : i < k + 1
  · rw [if_pos hi, if_pos hi, Nat.testBit_two_pow, Nat.testBit_two_pow_sub_one]
    have h1 : (decide (k = i) && decide (i < k)) = false := by simp; omega
    have h2 : decide (k + 1 ≤ i) = false := by simp; omega
    rw [h1, h2]
    rfl
  · rw [if_neg hi, if_neg hi, Bool.and_self]
    have h2 : decide (k + 1 ≤ i) = true := by simp; omega
    rw [h2, Bool.true_and]
theorem bl_step {s : Nat} (h0 : s ≠ 0) (h : s < 18446744073709551616) : bl s = tz s :: bl (s &&& (s - 1)) := by
  obtain ⟨m, hs, hk⟩ := tz_spec h0 h
  obtain ⟨k, hkk⟩ : ∃ k, tz s = k := ⟨_, rfl⟩
  rw [hkk] at hs hk ⊢
  subst hs
  rw [and_pred]
  have h1 : bl (2 ^ k * (2 * m + 1)) = k :: bf (2 ^ k * (2 * m + 1)) (k + 1) (63 - k) := by
    unfold bl
    rw [bf_skip k 64 0 (by omega) (fun i _ h2 => by rw [testBit_odd]; simp; omega), show 64 - k = (63 - k) + 1 by omega, bf, if_pos (by rw [testBit_odd]; simp), Nat.zero_add]
  have h2 : bl (2 ^ (k + 1) * m) = bf (2 ^ (k + 1) * m) (k + 1) (63 - k) := by
    unfold bl
    rw [bf_skip (k + 1) 64 0 (by omega) (fun i _ h2 => by rw [Nat.mul_comm, Nat.testBit_mul_two_pow]; simp; omega), show 64 - (k + 1) = 63 - k by omega, Nat.zero_add]
  rw [h1, h2]
  congr 1
  apply bf_congr
  intro i h3 h4
  rw [testBit_odd, Nat.mul_comm (2 ^ (k + 1)) m, Nat.testBit_mul_two_pow]
  have e1 : decide (k ≤ i) = true := by simp; omega
  have e2 : decide (k + 1 ≤ i) = true := by simp; omega
  rw [e1, e2, Bool.true_and, Bool.true_and, show i - k = (i - (k + 1)) + 1 by omega, Nat.testBit_succ]
  congr 1
  omega
/- How many bits are set: n of them, from the lowest up. -/
def ct : Nat → Nat → Nat
  | 0, _ => 0
  | n + 1, s => s % 2 + ct n (s / 2)
/- The document's word of places: from the last place down. -/
def wd (f : Nat → Bool) : Nat → Nat
  | 0 => 0
  | n + 1 => 2 * wd f n + (f (63 - n)).toNat
theorem wd_lt (f : Nat → Bool) : ∀ n, wd f n < 2 ^ n
  | 0 => by simp [wd]
  | n + 1 => by
    have := wd_lt f n
    have h2 : (f (63 - n)).toNat ≤ 1 := Bool.toNat_le _
    rw [wd, Nat.pow_succ]
    omega
theorem wd_bit (f : Nat → Bool) : ∀ (n i : Nat), n ≤ 64 → i < n → (wd f n).testBit i = f (64 - n + i)
  | 0, _, _, h => by omega
  | n + 1, 0, hn, _ => by
    rw [wd, Nat.testBit_zero, show 64 - (n + 1) + 0 = 63 - n by omega]
    cases f (63 - n) <;> simp <;> omega
  | n + 1, i + 1, hn, h => by
    rw [wd, Nat.testBit_succ, show (2 * wd f n + (f (63 - n)).toNat) / 2 = wd f n by have : (f (63 - n)).toNat ≤ 1 := Bool.toNat_le _; omega, wd_bit f n i (by omega) (by omega)]
    congr 1
    omega
theorem bit_high {s i : Nat} (h : s < 18446744073709551616) (hi : 64 ≤ i) : s.testBit i = false :=
  Nat.testBit_lt_two_pow (Nat.lt_of_lt_of_le h (by rw [show (18446744073709551616 : Nat) = 2 ^ 64 by decide]; exact Nat.pow_le_pow_right (by omega) hi))
theorem eq_of_bits {s t : Nat} (hs : s < 18446744073709551616) (ht : t < 18446744073709551616) (h : ∀ i, i < 64 → s.testBit i = t.testBit i) : s = t := by
  apply Nat.eq_of_testBit_eq
  intro i
  by_cases hi : i < 64
  · exact h i hi
  · rw [bit_high hs (by omega), bit_high ht (by omega)]
theorem wd_all (f : Nat → Bool) {t : Nat} (ht : t < 18446744073709551616) (h : ∀ i, i < 64 → t.testBit i = f i) : wd f 64 = t :=
  eq_of_bits (by have := wd_lt f 64; simpa using this) ht fun i hi => by rw [wd_bit f 64 i (by omega) hi, h i hi]; simp

/- With a place, without it, all others. -/
def put (s n : Nat) : Nat := s ||| 2 ^ n
def drp (s n : Nat) : Nat := s &&& (18446744073709551615 - 2 ^ n)
def nt (s : Nat) : Nat := 18446744073709551615 - s
theorem pow_lt {n : Nat} (h : n < 64) : 2 ^ n < 18446744073709551616 := by
  rw [show (18446744073709551616 : Nat) = 2 ^ 64 by decide]
  exact Nat.pow_lt_pow_right (by omega) h
theorem put_lt {s n : Nat} (hs : s < 18446744073709551616) (hn : n < 64) : put s n < 18446744073709551616 :=
  Nat.or_lt_two_pow (n := 64) hs (pow_lt hn)
theorem drp_lt {s n : Nat} (hs : s < 18446744073709551616) : drp s n < 18446744073709551616 :=
  Nat.lt_of_le_of_lt Nat.and_le_left hs
theorem nt_lt (s : Nat) : nt s < 18446744073709551616 := by unfold nt; omega
theorem nt_bit {s i : Nat} (hs : s < 18446744073709551616) (hi : i < 64) : (nt s).testBit i = !s.testBit i := by
  unfold nt
  have h := Nat.testBit_two_pow_sub_succ (n := 64) (x := s) hs i
  rw [show 18446744073709551615 - s = 2 ^ 64 - (s + 1) by omega, h]
  simp [hi]
theorem put_bit (s n i : Nat) : (put s n).testBit i = (decide (n = i) || s.testBit i) := by
  unfold put
  rw [Nat.testBit_or, Nat.testBit_two_pow, Bool.or_comm]
theorem drp_bit {s n i : Nat} (hn : n < 64) (hi : i < 64) : (drp s n).testBit i = (!decide (n = i) && s.testBit i) := by
  unfold drp
  rw [Nat.testBit_and, show 18446744073709551615 - 2 ^ n = nt (2 ^ n) from rfl, nt_bit (pow_lt hn) hi, Nat.testBit_two_pow, Bool.and_comm]
/- The first of a list; -1: there is none. -/
def hd : List Nat → Int
  | [] => -1
  | k :: _ => (k : Int)
theorem bf_tail {s : Nat} : ∀ {n p k : Nat} {r : List Nat}, bf s p n = k :: r → p ≤ k ∧ k < p + n ∧ s.testBit k = true ∧ r = bf s (k + 1) (p + n - (k + 1))
  | 0, p, k, r, h => by simp [bf] at h
  | n + 1, p, k, r, h => by
    rw [bf] at h
    split at h
    · rename_i hb
      cases h
      exact ⟨Nat.le_refl _, by omega, hb, by rw [show p + (n + 1) - (p + 1) = n by omega]⟩
    · obtain ⟨h1, h2, h3, h4⟩ := bf_tail h
      exact ⟨by omega, by omega, h3, by rw [h4, show p + 1 + n - (k + 1) = p + (n + 1) - (k + 1) by omega]⟩
/- From a place on. -/
def fr (s b : Nat) : Nat := s / 2 ^ b * 2 ^ b
/- Those that are in and those that are out are 64. -/
theorem bf_both {s t : Nat} : ∀ (n p : Nat), (∀ i, p ≤ i → i < p + n → t.testBit i = !s.testBit i) → (bf s p n).length + (bf t p n).length = n
  | 0, _, _ => rfl
  | n + 1, p, h => by
    have := bf_both n (p + 1) fun i h1 h2 => h i (by omega) (by omega)
    rw [bf, bf, h p (Nat.le_refl _) (by omega)]
    cases s.testBit p <;> simp <;> omega
theorem bl_both {s : Nat} (h : s < 18446744073709551616) : (bl s).length + (bl (nt s)).length = 64 := bf_both 64 0 fun i _ h2 => nt_bit h (by omega)
/- One bit more. -/
theorem bf_one {s t k : Nat} (hs : s.testBit k = true) (ht : t.testBit k = false) (h : ∀ i, i ≠ k → s.testBit i = t.testBit i) : ∀ (n p : Nat), p ≤ k → k < p + n → (bf s p n).length = (bf t p n).length + 1
  | 0, _, _, _ => by omega
  | n + 1, p, h1, h2 => by
    by_cases hp : p = k
    · subst hp
      rw [bf, bf, hs, ht, bf_congr (t := t) n (p + 1) fun i h3 h4 => h i (by omega)]
      simp
    · have := bf_one hs ht h n (p + 1) (by omega) (by omega)
      rw [bf, bf, h p hp]
      cases t.testBit p <;> simp <;> omega
theorem drp_bit' {s n i : Nat} (hs : s < 18446744073709551616) (hn : n < 64) : (drp s n).testBit i = (!decide (n = i) && s.testBit i) := by
  by_cases hi : i < 64
  · exact drp_bit hn hi
  · rw [bit_high hs (by omega), bit_high (drp_lt hs) (by omega), Bool.and_false]
theorem put_drp {s n : Nat} (hs : s < 18446744073709551616) (hn : n < 64) : (bl (put s n)).length = (bl (drp s n)).length + 1 :=
  bf_one (k := n) (by rw [put_bit]; simp) (by rw [drp_bit hn hn]; simp) (fun i hi => by rw [put_bit, drp_bit' hs hn]; simp [Ne.symm hi]) 64 0 (by omega) (by omega)
/- One after the other, the least that is out. -/
theorem nt_put {s : Nat} (hs : s < 18446744073709551616) (h0 : nt s ≠ 0) : nt (put s (tz (nt s))) = nt s &&& (nt s - 1) := by
  obtain ⟨m, hm, hk⟩ := tz_spec h0 (nt_lt s)
  obtain ⟨k, hkk⟩ : ∃ k, tz (nt s) = k := ⟨_, rfl⟩
  rw [hkk] at hm hk ⊢
  have hp : put s k < 18446744073709551616 := put_lt hs hk
  apply eq_of_bits (nt_lt _) (Nat.lt_of_le_of_lt Nat.and_le_left (nt_lt s))
  intro i hi
  rw [nt_bit hp hi, put_bit, Bool.not_or, ← nt_bit hs hi, hm, and_pred, testBit_odd, Nat.mul_comm (2 ^ (k + 1)) m, Nat.testBit_mul_two_pow]
  by_cases h1 : i < k
  · have e1 : decide (k ≤ i) = false := by simp; omega
    have e2 : decide (k + 1 ≤ i) = false := by simp; omega
    rw [e1, e2]; simp
  · by_cases h2 : i = k
    · subst h2
      have e2 : decide (i + 1 ≤ i) = false := by simp
      rw [e2]; simp
    · have e1 : decide (k ≤ i) = true := by simp; omega
      have e2 : decide (k + 1 ≤ i) = true := by simp; omega
      have e3 : decide (k = i) = false := by simp; omega
      rw [e1, e2, e3, Bool.true_and, Bool.true_and, Bool.not_false, Bool.true_and, show i - k = (i - (k + 1)) + 1 by omega, Nat.testBit_succ]
      congr 1
      omega
def pf (s : Nat) (l : List Nat) : Nat := l.foldl put s
theorem pf_snoc (s : Nat) (l : List Nat) (k : Nat) : pf s (l ++ [k]) = put (pf s l) k := by simp [pf]
theorem bl_pf : ∀ (n : Nat) {s : Nat}, s < 18446744073709551616 → bl (nt (pf s ((bl (nt s)).take n))) = (bl (nt s)).drop n
  | 0, s, hs => rfl
  | n + 1, s, hs => by
    by_cases h0 : nt s = 0
    · rw [h0, bl_zero]; simp [pf, h0, bl_zero]
    · have hk : tz (nt s) < 64 := (tz_spec h0 (nt_lt s)).elim fun m h => h.2
      have h1 := bl_step h0 (nt_lt s)
      rw [← nt_put hs h0] at h1
      have h2 := bl_pf n (put_lt hs hk)
      rw [h1, List.take_succ_cons, List.drop_succ_cons]
      exact h2
theorem mem_bl {s i : Nat} : i ∈ bl s ↔ i < 64 ∧ s.testBit i = true := by
  unfold bl
  rw [mem_bf]
  constructor
  · rintro ⟨_, h1, h2⟩; exact ⟨by omega, h2⟩
  · rintro ⟨h1, h2⟩; exact ⟨by omega, by omega, h2⟩
end Go.Proofs.YtnaiocdldghdeaaGreat.Rs
/- Contracts: slots, Put, Drop, Has. -/
namespace Go.Proofs.YtnaiocdldghdeaaGreat.Rs
open Go.RowKit
set_option linter.unusedVariables false
set_option linter.unusedSimpArgs false

theorem ret_int {k : IntKind} {a b : Int} (h : a = b) : Ending.returned (.int k a) = .returned (.int k b) := by rw [h]
theorem ret_bool {a b : Bool} (h : a = b) : Ending.returned (.bool a) = .returned (.bool b) := by rw [h]
/- Is the number a slot? -/
def sl (n : Int) : Bool := decide (0 ≤ n) && decide (n < 64)
theorem sl_nat {n : Int} (h : sl n = true) : ∃ k : Nat, n = (k : Int) ∧ k < 64 := by
  simp only [sl, Bool.and_eq_true, decide_eq_true_eq] at h
  exact ⟨n.toNat, by omega, by omega⟩
theorem sl_not {n : Int} (h : sl n = false) : n < 0 ∨ 64 ≤ n := by
  simp only [sl, Bool.and_eq_false_iff, decide_eq_false_iff_not] at h
  omega
theorem u64_fit (z : Int) (h0 : 0 ≤ z) (h1 : z < 18446744073709551616) : IntKind.u64.wrap z = z := by rw [IntKind.wrap_u64]; omega
theorem i64_fit (z : Int) (h0 : -9223372036854775808 ≤ z) (h1 : z < 9223372036854775808) : IntKind.i64.wrap z = z := by
  simp only [IntKind.wrap, IntKind.bits, IntKind.signed]
  simp
  omega
/- The document's answers: Put, Drop (the word, the error). -/
def putR (s : Nat) (n : Int) : Value := if sl n then .tuple #[.int .u64 ((put s n.toNat : Nat) : Int), .int .i64 0] else .tuple #[.int .u64 0, .int .i64 1]
def drpR (s : Nat) (n : Int) : Value := if sl n then .tuple #[.int .u64 ((drp s n.toNat : Nat) : Int), .int .i64 0] else .tuple #[.int .u64 0, .int .i64 1]
def hs (s : Nat) (n : Int) : Bool := sl n && s.testBit n.toNat
end Go.Proofs.YtnaiocdldghdeaaGreat.Rs
/- How many bits of a word are set: the library's sum of neighbouring fields. -/
namespace Go.Proofs.YtnaiocdldghdeaaGreat.Rs
set_option linter.unusedVariables false

def mk (c : Nat) : Nat → Nat
  | 0 => 0
  | n + 1 => 256 * mk c n + c
def pc : Nat → Nat → Nat
  | 0, _ => 0
  | n + 1, x => 256 * pc n (x / 256) + ct 8 (x % 256)
end Go.Proofs.YtnaiocdldghdeaaGreat.Rs
/- Contracts: how many slots (the library's OnesCount64, Count). -/
namespace Go.Proofs.YtnaiocdldghdeaaGreat.Rs
open Go.RowKit
set_option linter.unusedVariables false
set_option linter.unusedSimpArgs false

end Go.Proofs.YtnaiocdldghdeaaGreat.Rs
