/- Contracts: Seal and Open. -/
import Derived.Test.YtompgoaogomoaaaKeyA
import Derived.Test.YtompgoaogomoaaaKeyC
namespace Go.Proofs.Ytompgoaogomoaaa.Rt
open Go.RowKit

theorem rGoodBox_up (a b c d : Int) (h : ¬ Gd a b) (w : World) :
    Calls Try.prog 27 #[.agg #[.int .i64 a, .int .i64 b, .int .i64 c, .int .i64 d]] w fun e w' => e = .returned (.bool false) ∧ w' = (w.alloc (.cells #[.int .i64 a, .int .i64 b, .int .i64 c, .int .i64 d] 35)).alloc (.cells #[.int .i64 a, .int .i64 b] 33) := by
  have hg := gd_no h
  go_enter Try.func27, Try.ntmps27
  go_wp2_with (go_at_call 28; refine (rGood_any _ _ _).mono ?_; rintro e w' ⟨rfl, rfl⟩)
  go_ret
  exact ⟨rfl, rfl⟩
theorem rGoodBox_low (a b c d : Int) (h : Gd a b) (k : ¬ Gd c d) (w : World) :
    Calls Try.prog 27 #[.agg #[.int .i64 a, .int .i64 b, .int .i64 c, .int .i64 d]] w fun e w' => e = .returned (.bool false) ∧ w' = ((w.alloc (.cells #[.int .i64 a, .int .i64 b, .int .i64 c, .int .i64 d] 35)).alloc (.cells #[.int .i64 a, .int .i64 b] 33)).alloc (.cells #[.int .i64 c, .int .i64 d] 33) := by
  have hg := gd_yes h
  have hk := gd_no k
  go_enter Try.func27, Try.ntmps27
  go_wp2_with (go_at_call 28; refine (rGood_any _ _ _).mono ?_; rintro e w' ⟨rfl, rfl⟩)
  go_ret
  exact ⟨rfl, rfl⟩
theorem rGoodBox_yes (a b c d : Int) (h : Gd a b) (k : Gd c d) (w : World) :
    Calls Try.prog 27 #[.agg #[.int .i64 a, .int .i64 b, .int .i64 c, .int .i64 d]] w fun e w' => e = .returned (.bool true) ∧ w' = ((w.alloc (.cells #[.int .i64 a, .int .i64 b, .int .i64 c, .int .i64 d] 35)).alloc (.cells #[.int .i64 a, .int .i64 b] 33)).alloc (.cells #[.int .i64 c, .int .i64 d] 33) := by
  have hg := gd_yes h
  have hk := gd_yes k
  go_enter Try.func27, Try.ntmps27
  go_wp2_with (go_at_call 28; refine (rGood_any _ _ _).mono ?_; rintro e w' ⟨rfl, rfl⟩)
  go_ret
  exact ⟨rfl, rfl⟩
end Go.Proofs.Ytompgoaogomoaaa.Rt
