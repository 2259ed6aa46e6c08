/- Contracts: masks, where two nodes meet; the fixed answer that every statement asks first. -/
import Derived.Test.YtpkfpckljpffgaaShpE
import Derived.Test.YtpkfpckljpffgaaShpEq
import Derived.Test.YtpkfpckljpffgaaShpMath2
namespace Go.Proofs.Ytpkfpckljpffgaa.Sh
open Go.RowKit

theorem level_of {v k : Int} (h : lev v = k) (w : World) :
    Calls Try.prog 34 #[.int .i64 v] w fun e w' => e = .returned (.int .i64 k) ∧ w' = w := by rw [← h]; exact level_any v w
theorem first0 (w : World) : Calls Try.prog 56 #[.int .i64 0] w fun e w' => e = .returned (.int .i64 0) ∧ w' = w := first_any 0 (by omega) w
theorem first1 (w : World) : Calls Try.prog 56 #[.int .i64 1] w fun e w' => e = .returned (.int .i64 1) ∧ w' = w := first_any 1 (by omega) w
theorem first2 (w : World) : Calls Try.prog 56 #[.int .i64 2] w fun e w' => e = .returned (.int .i64 5) ∧ w' = w := first_any 2 (by omega) w
theorem first3 (w : World) : Calls Try.prog 56 #[.int .i64 3] w fun e w' => e = .returned (.int .i64 21) ∧ w' = w := first_any 3 (by omega) w

theorem mask_0 (w : World) :
    Calls Try.prog 40 #[.int .i64 0] w fun e w' => e = .returned (.int .u64 (msk 0)) ∧ w' = w := by
  rw [msk0_all]
  go_enter Try.func40, Try.ntmps40
  go_wp2_with (first | (go_at_call 55; refine (isNode_yes _ (by omega) (by omega) _).mono ?_; rintro e w' ⟨rfl, rfl⟩) | (go_at_call 34; refine (level_of (show lev 0 = 0 by decide) _).mono ?_; rintro e w' ⟨rfl, rfl⟩) | (go_at_call 56; refine (first0 _).mono ?_; rintro e w' ⟨rfl, rfl⟩))
  go_ret
  exact ⟨rfl, rfl⟩
theorem mask_1 (v : Int) (h0 : 1 ≤ v) (h1 : v < 5) (w : World) :
    Calls Try.prog 40 #[.int .i64 v] w fun e w' => e = .returned (.int .u64 (msk v)) ∧ w' = w := by
  go_enter Try.func40, Try.ntmps40
  go_wp2_with (first | (go_at_call 55; refine (isNode_yes _ (by omega) (by omega) _).mono ?_; rintro e w' ⟨rfl, rfl⟩) | (go_at_call 34; refine (level_of (lev1 h0 h1) _).mono ?_; rintro e w' ⟨rfl, rfl⟩) | (go_at_call 56; refine (first1 _).mono ?_; rintro e w' ⟨rfl, rfl⟩))
  go_ret
  exact ⟨ret_int (msk1_of h0 h1), rfl⟩
theorem mask_2 (v : Int) (h0 : 5 ≤ v) (h1 : v < 21) (w : World) :
    Calls Try.prog 40 #[.int .i64 v] w fun e w' => e = .returned (.int .u64 (msk v)) ∧ w' = w := by
  go_enter Try.func40, Try.ntmps40
  go_wp2_with (first | (go_at_call 55; refine (isNode_yes _ (by omega) (by omega) _).mono ?_; rintro e w' ⟨rfl, rfl⟩) | (go_at_call 34; refine (level_of (lev2 h0 h1) _).mono ?_; rintro e w' ⟨rfl, rfl⟩) | (go_at_call 56; refine (first2 _).mono ?_; rintro e w' ⟨rfl, rfl⟩))
  go_ret
  exact ⟨ret_int (msk2_of h0 h1), rfl⟩
theorem mask_3 (v : Int) (h0 : 21 ≤ v) (h1 : v < 85) (w : World) :
    Calls Try.prog 40 #[.int .i64 v] w fun e w' => e = .returned (.int .u64 (msk v)) ∧ w' = w := by
  go_enter Try.func40, Try.ntmps40
  go_wp2_with (first | (go_at_call 55; refine (isNode_yes _ (by omega) (by omega) _).mono ?_; rintro e w' ⟨rfl, rfl⟩) | (go_at_call 34; refine (level_of (lev_leaf h0 h1) _).mono ?_; rintro e w' ⟨rfl, rfl⟩) | (go_at_call 56; refine (first3 _).mono ?_; rintro e w' ⟨rfl, rfl⟩))
  go_ret
  exact ⟨ret_int (msk3_of h0 h1), rfl⟩
theorem mask_any (v : Int) (w : World) :
    Calls Try.prog 40 #[.int .i64 v] w fun e w' => e = .returned (.int .u64 (msk v)) ∧ w' = w := by
  by_cases h : 0 ≤ v ∧ v < 85
  · by_cases h1 : v < 1
    · obtain rfl : v = 0 := by omega
      exact mask_0 w
    · by_cases h2 : v < 5
      · exact mask_1 v (by omega) h2 w
      · by_cases h3 : v < 21
        · exact mask_2 v (by omega) h3 w
        · exact mask_3 v (by omega) h.2 w
  · have hp : Hid (msk v = 0) := msk_no (by omega)
    go_enter Try.func40, Try.ntmps40
    go_wp2_with (go_at_call 55; refine (isNode_no _ (by omega) _).mono ?_; rintro e w' ⟨rfl, rfl⟩)
    go_ret
    exact ⟨ret_int hp.out.symm, rfl⟩

theorem mask_5 (w : World) : Calls Try.prog 40 #[.int .i64 5] w fun e w' => e = .returned (.int .u64 15) ∧ w' = w := by
  have h : msk 5 = 15 := by decide +kernel
  rw [← h]; exact mask_any 5 w
theorem path_37 (w : World) : Calls Try.prog 38 #[.int .i64 37] w fun e w' => e = .returned (.tuple #[.agg #[.int .i64 14, .int .i64 3, .int .i64 0], .bool true]) ∧ Below w.heap.size w w' :=
  path_yes 37 (by omega) (by omega) w

end Go.Proofs.Ytpkfpckljpffgaa.Sh
