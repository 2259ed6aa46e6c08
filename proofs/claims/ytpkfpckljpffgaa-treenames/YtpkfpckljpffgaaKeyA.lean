/- Contracts of Good, Ahead, Gives and Compare of package key and of the document's answers. -/
import Derived.Test.YtpkfpckljpffgaaChecked
import Derived.Test.YtpkfpckljpffgaaKeyMath
namespace Go.Proofs.Ytpkfpckljpffgaa.Rt
open Go.RowKit

theorem good_yes (b s : Int) (h : Gd b s) (w : World) :
    Calls Try.prog 47 #[.agg #[.int .i64 b, .int .i64 s]] w fun e w' => e = .returned (.bool true) ∧ w' = w.alloc (.cells #[.int .i64 b, .int .i64 s] 23) := by
  obtain ⟨h1, h2, h3, h4⟩ := h
  go_enter Try.func47, Try.ntmps47
  go_wp2
  go_ret
  exact ⟨rfl, rfl⟩
theorem good_no (b s : Int) (h : ¬ Gd b s) (w : World) :
    Calls Try.prog 47 #[.agg #[.int .i64 b, .int .i64 s]] w fun e w' => e = .returned (.bool false) ∧ w' = w.alloc (.cells #[.int .i64 b, .int .i64 s] 23) := by
  by_cases h1 : 1 ≤ b
  · by_cases h2 : b ≤ 65535
    · by_cases h3 : 0 ≤ s
      · have h4 : decide (s ≤ 255) = false := by unfold Gd at h; simp; omega
        clear h
        go_enter Try.func47, Try.ntmps47
        go_wp2
        go_ret
        exact ⟨ret_bool (by first | rfl | exact h4), rfl⟩
      · clear h
        go_enter Try.func47, Try.ntmps47
        go_wp2
        go_ret
        exact ⟨rfl, rfl⟩
    · clear h
      go_enter Try.func47, Try.ntmps47
      go_wp2
      go_ret
      exact ⟨rfl, rfl⟩
  · clear h
    go_enter Try.func47, Try.ntmps47
    go_wp2
    go_ret
    exact ⟨rfl, rfl⟩
theorem good_any (b s : Int) (w : World) :
    Calls Try.prog 47 #[.agg #[.int .i64 b, .int .i64 s]] w fun e w' => e = .returned (.bool (gd b s)) ∧ w' = w.alloc (.cells #[.int .i64 b, .int .i64 s] 23) := by
  by_cases h : Gd b s
  · rw [gd_yes h]; exact good_yes b s h w
  · rw [gd_no h]; exact good_no b s h w
theorem rGood_yes (b s : Int) (h : Gd b s) (w : World) :
    Calls Try.prog 53 #[.agg #[.int .i64 b, .int .i64 s]] w fun e w' => e = .returned (.bool true) ∧ w' = w.alloc (.cells #[.int .i64 b, .int .i64 s] 23) := by
  obtain ⟨h1, h2, h3, h4⟩ := h
  go_enter Try.func53, Try.ntmps53
  go_wp2
  go_ret
  exact ⟨rfl, rfl⟩
theorem rGood_no (b s : Int) (h : ¬ Gd b s) (w : World) :
    Calls Try.prog 53 #[.agg #[.int .i64 b, .int .i64 s]] w fun e w' => e = .returned (.bool false) ∧ w' = w.alloc (.cells #[.int .i64 b, .int .i64 s] 23) := by
  by_cases h1 : 1 ≤ b
  · by_cases h2 : b ≤ 65535
    · by_cases h3 : 0 ≤ s
      · have h4 : decide (s ≤ 255) = false := by unfold Gd at h; simp; omega
        clear h
        go_enter Try.func53, Try.ntmps53
        go_wp2
        go_ret
        exact ⟨ret_bool (by first | rfl | exact h4), rfl⟩
      · clear h
        go_enter Try.func53, Try.ntmps53
        go_wp2
        go_ret
        exact ⟨rfl, rfl⟩
    · clear h
      go_enter Try.func53, Try.ntmps53
      go_wp2
      go_ret
      exact ⟨rfl, rfl⟩
  · clear h
    go_enter Try.func53, Try.ntmps53
    go_wp2
    go_ret
    exact ⟨rfl, rfl⟩
theorem rGood_any (b s : Int) (w : World) :
    Calls Try.prog 53 #[.agg #[.int .i64 b, .int .i64 s]] w fun e w' => e = .returned (.bool (gd b s)) ∧ w' = w.alloc (.cells #[.int .i64 b, .int .i64 s] 23) := by
  by_cases h : Gd b s
  · rw [gd_yes h]; exact rGood_yes b s h w
  · rw [gd_no h]; exact rGood_no b s h w

theorem ahead_bad (b s n : Int) (h : ¬ Gd b s) (w : World) :
    Calls Try.prog 58 #[.agg #[.int .i64 b, .int .i64 s], .int .i64 n] w fun e w' => e = .returned (.tuple #[.agg #[.int .i64 0, .int .i64 0], .int .i64 3]) ∧ Below w.heap.size w w' := by
  go_enter Try.func58, Try.ntmps58
  go_wp2_with (go_at_call 47; refine (good_no _ _ h _).mono ?_; rintro e w' ⟨rfl, rfl⟩)
  exact bodyPost_ret (v := .tuple #[.agg #[.int .i64 0, .int .i64 0], .int .i64 3]) (by simp [results, Try.results58, go_sem]) rfl ⟨rfl, Below.more (Below.more (below1 _ _) _) _⟩
theorem ahead_far (b s n : Int) (h : Gd b s) (hn : n < 0 ∨ 255 - s < n) (w : World) :
    Calls Try.prog 58 #[.agg #[.int .i64 b, .int .i64 s], .int .i64 n] w fun e w' => e = .returned (.tuple #[.agg #[.int .i64 0, .int .i64 0], .int .i64 4]) ∧ Below w.heap.size w w' := by
  have h4 := h.2.2.2
  have h3 := h.2.2.1
  by_cases h0 : n < 0
  · go_enter Try.func58, Try.ntmps58
    go_wp2_with (go_at_call 47; refine (good_yes _ _ h _).mono ?_; rintro e w' ⟨rfl, rfl⟩)
    exact bodyPost_ret (v := .tuple #[.agg #[.int .i64 0, .int .i64 0], .int .i64 4]) (by simp [results, Try.results58, go_sem]) rfl ⟨rfl, Below.more (Below.more (below1 _ _) _) _⟩
  · have h1 : 255 - s < n := by omega
    clear hn
    go_enter Try.func58, Try.ntmps58
    go_wp2_with (go_at_call 47; refine (good_yes _ _ h _).mono ?_; rintro e w' ⟨rfl, rfl⟩)
    exact bodyPost_ret (v := .tuple #[.agg #[.int .i64 0, .int .i64 0], .int .i64 4]) (by simp [results, Try.results58, go_sem]) rfl ⟨rfl, Below.more (Below.more (below1 _ _) _) _⟩
theorem ahead_yes (b s n : Int) (h : Gd b s) (h0 : 0 ≤ n) (h1 : n ≤ 255 - s) (w : World) :
    Calls Try.prog 58 #[.agg #[.int .i64 b, .int .i64 s], .int .i64 n] w fun e w' => e = .returned (.tuple #[.agg #[.int .i64 b, .int .i64 (s + n)], .int .i64 0]) ∧ Below w.heap.size w w' := by
  have h4 := h.2.2.2
  have h3 := h.2.2.1
  go_enter Try.func58, Try.ntmps58
  go_wp2_with (go_at_call 47; refine (good_yes _ _ h _).mono ?_; rintro e w' ⟨rfl, rfl⟩)
  exact bodyPost_ret (v := .tuple #[.agg #[.int .i64 b, .int .i64 (s + n)], .int .i64 0]) (by simp [results, Try.results58, go_sem]) rfl ⟨rfl, Below.more (Below.more (below1 _ _) _) _⟩
end Go.Proofs.Ytpkfpckljpffgaa.Rt
