/- Contracts: slots, Put, Drop, Has. -/
import Derived.Test.YtpkfpckljpffgaaChecked
import Derived.Test.YtpkfpckljpffgaaStMath
import Derived.WalkKit
import Derived.ProofKit
import Derived.Below
import Derived.WalkSpells
import Derived.Laws.ShiftsVarLaws
namespace Go.Proofs.Ytpkfpckljpffgaa.Rs
open Go.RowKit
set_option linter.unusedVariables false
set_option linter.unusedSimpArgs false

theorem ret_int {k : IntKind} {a b : Int} (h : a = b) : Ending.returned (.int k a) = .returned (.int k b) := by rw [h]
theorem ret_bool {a b : Bool} (h : a = b) : Ending.returned (.bool a) = .returned (.bool b) := by rw [h]
/- Is the number a slot? -/
def sl (n : Int) : Bool := decide (0 ≤ n) && decide (n < 64)
theorem sl_nat {n : Int} (h : sl n = true) : ∃ k : Nat, n = (k : Int) ∧ k < 64 := by
  simp only [sl, Bool.and_eq_true, decide_eq_true_eq] at h
  exact ⟨n.toNat, by omega, by omega⟩
theorem sl_of {k : Nat} (h : k < 64) : sl (k : Int) = true := by simp [sl]; omega
theorem sl_not {n : Int} (h : sl n = false) : n < 0 ∨ 64 ≤ n := by
  simp only [sl, Bool.and_eq_false_iff, decide_eq_false_iff_not] at h
  omega
set_option maxHeartbeats 400000 in
theorem isSlot_any (n : Int) (w : World) : Calls Try.prog 68 #[.int .i64 n] w fun e w' => e = .returned (.bool (sl n)) ∧ w' = w := by
  by_cases h0 : 0 ≤ n
  · by_cases h1 : n < 64
    · go_enter Try.func68, Try.ntmps68
      go_wp2
      go_ret
      exact ⟨ret_bool (by simp [sl, h0, h1]), rfl⟩
    · go_enter Try.func68, Try.ntmps68
      go_wp2
      go_ret
      exact ⟨ret_bool (by simp [sl, h0, h1]), rfl⟩
  · go_enter Try.func68, Try.ntmps68
    go_wp2
    go_ret
    exact ⟨ret_bool (by simp [sl]; omega), rfl⟩
theorem u64_fit (z : Int) (h0 : 0 ≤ z) (h1 : z < 18446744073709551616) : IntKind.u64.wrap z = z := by rw [IntKind.wrap_u64]; omega
theorem i64_fit (z : Int) (h0 : -9223372036854775808 ≤ z) (h1 : z < 9223372036854775808) : IntKind.i64.wrap z = z := by
  simp only [IntKind.wrap, IntKind.bits, IntKind.signed]
  simp
  omega
theorem pow_cast (k : Nat) : (2 : Int) ^ k = ((2 ^ k : Nat) : Int) := by simp
set_option maxHeartbeats 400000 in
theorem alone_any (k : Nat) (hk : k < 64) (w : World) : Calls Try.prog 69 #[.int .i64 (k : Int)] w fun e w' => e = .returned (.int .u64 ((2 ^ k : Nat) : Int)) ∧ w' = w := by
  have hk2 : ((k : Int) < 64) = True := by simp; omega
  go_enter Try.func69, Try.ntmps69
  go_wp2
  go_ret
  refine ⟨ret_int ?_, rfl⟩
  have h2 := pow_lt hk
  have h3 : min k 64 = k := by omega
  simp only [IntKind.wrap_u64, Int.toNat_natCast, h3, pow_cast]
  generalize 2 ^ k = p at *
  omega
/- The document's answers: Put, Drop (the word, the error). -/
def putR (s : Nat) (n : Int) : Value := if sl n then .tuple #[.int .u64 ((put s n.toNat : Nat) : Int), .int .i64 0] else .tuple #[.int .u64 0, .int .i64 1]
def drpR (s : Nat) (n : Int) : Value := if sl n then .tuple #[.int .u64 ((drp s n.toNat : Nat) : Int), .int .i64 0] else .tuple #[.int .u64 0, .int .i64 1]
def hs (s : Nat) (n : Int) : Bool := sl n && s.testBit n.toNat
theorem putR_sl {s k : Nat} (h : k < 64) : putR s (k : Int) = .tuple #[.int .u64 ((put s k : Nat) : Int), .int .i64 0] := by unfold putR; rw [sl_of h, if_pos rfl, Int.toNat_natCast]
theorem drpR_sl {s k : Nat} (h : k < 64) : drpR s (k : Int) = .tuple #[.int .u64 ((drp s k : Nat) : Int), .int .i64 0] := by unfold drpR; rw [sl_of h, if_pos rfl, Int.toNat_natCast]
theorem putR_no {s : Nat} {n : Int} (h : sl n = false) : putR s n = .tuple #[.int .u64 0, .int .i64 1] := by unfold putR; rw [h]; rfl
theorem drpR_no {s : Nat} {n : Int} (h : sl n = false) : drpR s n = .tuple #[.int .u64 0, .int .i64 1] := by unfold drpR; rw [h]; rfl
theorem hs_sl {s k : Nat} (h : k < 64) : hs s (k : Int) = s.testBit k := by unfold hs; rw [sl_of h, Bool.true_and, Int.toNat_natCast]
theorem hs_no {s : Nat} {n : Int} (h : sl n = false) : hs s n = false := by unfold hs; rw [h]; rfl
set_option maxHeartbeats 400000 in
theorem put_any (s : Nat) (hs : s < 18446744073709551616) (n : Int) (w : World) : Calls Try.prog 63 #[.int .u64 (s : Int), .int .i64 n] w fun e w' => e = .returned (putR s n) ∧ w' = w := by
  have hi := isSlot_any n
  cases h : sl n with
  | false =>
    rw [h] at hi
    rw [putR_no h]
    go_enter Try.func63, Try.ntmps63
    go_wp2_with (go_at_call 68; refine (hi _).mono ?_; rintro e w' ⟨rfl, rfl⟩)
    go_ret2
    exact ⟨rfl, rfl⟩
  | true =>
    obtain ⟨k, rfl, hk⟩ := sl_nat h
    rw [h] at hi
    have ha := alone_any k hk
    have h2 := pow_lt hk
    have ho := u64_or_nat s (2 ^ k) hs h2
    rw [or_put] at ho
    rw [putR_sl hk]
    generalize 2 ^ k = p at *
    go_enter Try.func63, Try.ntmps63
    go_wp2_with (first | (go_at_call 68; refine (hi _).mono ?_; rintro e w' ⟨rfl, rfl⟩) | (go_at_call 69; refine (ha _).mono ?_; rintro e w' ⟨rfl, rfl⟩))
    go_ret2
    exact ⟨rfl, rfl⟩
end Go.Proofs.Ytpkfpckljpffgaa.Rs
