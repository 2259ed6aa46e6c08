/- Contracts of Good, Ahead, Gives and Compare of package key and of the document's answers. -/
import Derived.Test.YtompgoaogomoaaaChecked
import Derived.Test.YtompgoaogomoaaaKeyMath
namespace Go.Proofs.Ytompgoaogomoaaa.Rt
open Go.RowKit

theorem good_yes (b s : Int) (h : Gd b s) (w : World) :
    Calls Try.prog 37 #[.agg #[.int .i64 b, .int .i64 s]] w fun e w' => e = .returned (.bool true) ∧ w' = w.alloc (.cells #[.int .i64 b, .int .i64 s] 33) := by
  obtain ⟨h1, h2, h3, h4⟩ := h
  go_enter Try.func37, Try.ntmps37
  go_wp2
  go_ret
  exact ⟨rfl, rfl⟩
theorem good_no (b s : Int) (h : ¬ Gd b s) (w : World) :
    Calls Try.prog 37 #[.agg #[.int .i64 b, .int .i64 s]] w fun e w' => e = .returned (.bool false) ∧ w' = w.alloc (.cells #[.int .i64 b, .int .i64 s] 33) := by
  by_cases h1 : 1 ≤ b
  · by_cases h2 : b ≤ 65535
    · by_cases h3 : 0 ≤ s
      · have h4 : decide (s ≤ 255) = false := by unfold Gd at h; simp; omega
        clear h
        go_enter Try.func37, Try.ntmps37
        go_wp2
        go_ret
        exact ⟨ret_bool (by first | rfl | exact h4), rfl⟩
      · clear h
        go_enter Try.func37, Try.ntmps37
        go_wp2
        go_ret
        exact ⟨rfl, rfl⟩
    · clear h
      go_enter Try.func37, Try.ntmps37
      go_wp2
      go_ret
      exact ⟨rfl, rfl⟩
  · clear h
    go_enter Try.func37, Try.ntmps37
    go_wp2
    go_ret
    exact ⟨rfl, rfl⟩
theorem good_any (b s : Int) (w : World) :
    Calls Try.prog 37 #[.agg #[.int .i64 b, .int .i64 s]] w fun e w' => e = .returned (.bool (gd b s)) ∧ w' = w.alloc (.cells #[.int .i64 b, .int .i64 s] 33) := by
  by_cases h : Gd b s
  · rw [gd_yes h]; exact good_yes b s h w
  · rw [gd_no h]; exact good_no b s h w
theorem rGood_yes (b s : Int) (h : Gd b s) (w : World) :
    Calls Try.prog 28 #[.agg #[.int .i64 b, .int .i64 s]] w fun e w' => e = .returned (.bool true) ∧ w' = w.alloc (.cells #[.int .i64 b, .int .i64 s] 33) := by
  obtain ⟨h1, h2, h3, h4⟩ := h
  go_enter Try.func28, Try.ntmps28
  go_wp2
  go_ret
  exact ⟨rfl, rfl⟩
theorem rGood_no (b s : Int) (h : ¬ Gd b s) (w : World) :
    Calls Try.prog 28 #[.agg #[.int .i64 b, .int .i64 s]] w fun e w' => e = .returned (.bool false) ∧ w' = w.alloc (.cells #[.int .i64 b, .int .i64 s] 33) := by
  by_cases h1 : 1 ≤ b
  · by_cases h2 : b ≤ 65535
    · by_cases h3 : 0 ≤ s
      · have h4 : decide (s ≤ 255) = false := by unfold Gd at h; simp; omega
        clear h
        go_enter Try.func28, Try.ntmps28
        go_wp2
        go_ret
        exact ⟨ret_bool (by first | rfl | exact h4), rfl⟩
      · clear h
        go_enter Try.func28, Try.ntmps28
        go_wp2
        go_ret
        exact ⟨rfl, rfl⟩
    · clear h
      go_enter Try.func28, Try.ntmps28
      go_wp2
      go_ret
      exact ⟨rfl, rfl⟩
  · clear h
    go_enter Try.func28, Try.ntmps28
    go_wp2
    go_ret
    exact ⟨rfl, rfl⟩
theorem rGood_any (b s : Int) (w : World) :
    Calls Try.prog 28 #[.agg #[.int .i64 b, .int .i64 s]] w fun e w' => e = .returned (.bool (gd b s)) ∧ w' = w.alloc (.cells #[.int .i64 b, .int .i64 s] 33) := by
  by_cases h : Gd b s
  · rw [gd_yes h]; exact rGood_yes b s h w
  · rw [gd_no h]; exact rGood_no b s h w

end Go.Proofs.Ytompgoaogomoaaa.Rt
