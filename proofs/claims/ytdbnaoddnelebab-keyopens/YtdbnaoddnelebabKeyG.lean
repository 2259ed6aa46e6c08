/- Contracts: Open of both. -/
import Derived.Test.YtdbnaoddnelebabKeyF
namespace Go.Proofs.Ytdbnaoddnelebab
open Go.RowKit

theorem gives_exact (b s c t : Int) (h : Gd b s) (k : Gd c t) (w : World) :
    Calls Try.prog 12 #[.agg #[.int .i64 b, .int .i64 s], .agg #[.int .i64 c, .int .i64 t]] w fun e w' => e = .returned (.bool (gv b s c t)) ∧ w' = (((w.alloc (.cells #[.int .i64 b, .int .i64 s] 23)).alloc (.cells #[.int .i64 c, .int .i64 t] 23)).alloc (.cells #[.int .i64 b, .int .i64 s] 23)).alloc (.cells #[.int .i64 c, .int .i64 t] 23) := by
  unfold gv
  have hg := gd_yes h
  have hk := gd_yes k
  cases hb : (b == c)
  · go_enter Try.func12, Try.ntmps12
    go_wp2_with (go_at_call 11; refine (good_any _ _ _).mono ?_; rintro e w' ⟨rfl, rfl⟩)
    go_ret
    exact ⟨ret_bool (by simp [hg, hk]), rfl⟩
  · go_enter Try.func12, Try.ntmps12
    go_wp2_with (go_at_call 11; refine (good_any _ _ _).mono ?_; rintro e w' ⟨rfl, rfl⟩)
    go_ret
    exact ⟨ret_bool (by simp [hg, hk]), rfl⟩
theorem rGives_exact (b s c t : Int) (h : Gd b s) (k : Gd c t) (w : World) :
    Calls Try.prog 21 #[.agg #[.int .i64 b, .int .i64 s], .agg #[.int .i64 c, .int .i64 t]] w fun e w' => e = .returned (.bool (gv b s c t)) ∧ w' = (((w.alloc (.cells #[.int .i64 b, .int .i64 s] 23)).alloc (.cells #[.int .i64 c, .int .i64 t] 23)).alloc (.cells #[.int .i64 b, .int .i64 s] 23)).alloc (.cells #[.int .i64 c, .int .i64 t] 23) := by
  unfold gv
  have hg := gd_yes h
  have hk := gd_yes k
  cases hb : (b == c)
  · go_enter Try.func21, Try.ntmps21
    go_wp2_with (go_at_call 20; refine (rGood_any _ _ _).mono ?_; rintro e w' ⟨rfl, rfl⟩)
    go_ret
    exact ⟨ret_bool (by simp [hg, hk]), rfl⟩
  · go_enter Try.func21, Try.ntmps21
    go_wp2_with (go_at_call 20; refine (rGood_any _ _ _).mono ?_; rintro e w' ⟨rfl, rfl⟩)
    go_ret
    exact ⟨ret_bool (by simp [hg, hk]), rfl⟩
theorem open_up (a b c d x y : Int) (h : ¬ Gd a b) (w : World) :
    Calls Try.prog 9 #[.agg #[.int .i64 a, .int .i64 b, .int .i64 c, .int .i64 d], .agg #[.int .i64 x, .int .i64 y]] w fun e w' => e = .returned (.tuple #[.agg #[.int .i64 0, .int .i64 0], .int .i64 3]) ∧ Below w.heap.size w w' := by
  go_enter Try.func9, Try.ntmps9
  go_wp2_with fail
  refine (goodBox_up a b c d h _).mono ?_
  rintro e w' ⟨rfl, rfl⟩
  go_wp2
  exact bodyPost_ret (v := .tuple #[.agg #[.int .i64 0, .int .i64 0], .int .i64 3]) (by simp [results, Try.results9, go_sem]) rfl ⟨rfl, Below.more (Below.more (Below.more (Below.more (below1 _ _) _) _) _) _⟩
theorem open_low (a b c d x y : Int) (h : Gd a b) (k : ¬ Gd c d) (w : World) :
    Calls Try.prog 9 #[.agg #[.int .i64 a, .int .i64 b, .int .i64 c, .int .i64 d], .agg #[.int .i64 x, .int .i64 y]] w fun e w' => e = .returned (.tuple #[.agg #[.int .i64 0, .int .i64 0], .int .i64 3]) ∧ Below w.heap.size w w' := by
  go_enter Try.func9, Try.ntmps9
  go_wp2_with fail
  refine (goodBox_low a b c d h k _).mono ?_
  rintro e w' ⟨rfl, rfl⟩
  go_wp2
  exact bodyPost_ret (v := .tuple #[.agg #[.int .i64 0, .int .i64 0], .int .i64 3]) (by simp [results, Try.results9, go_sem]) rfl ⟨rfl, Below.more (Below.more (Below.more (Below.more (Below.more (below1 _ _) _) _) _) _) _⟩
theorem open_bad (a b c d x y : Int) (h : Gd a b) (k : Gd c d) (m : ¬ Gd x y) (w : World) :
    Calls Try.prog 9 #[.agg #[.int .i64 a, .int .i64 b, .int .i64 c, .int .i64 d], .agg #[.int .i64 x, .int .i64 y]] w fun e w' => e = .returned (.tuple #[.agg #[.int .i64 0, .int .i64 0], .int .i64 3]) ∧ Below w.heap.size w w' := by
  go_enter Try.func9, Try.ntmps9
  go_wp2_with fail
  refine (goodBox_yes a b c d h k _).mono ?_
  rintro e w' ⟨rfl, rfl⟩
  go_wp2_with fail
  refine (good_no x y m _).mono ?_
  rintro e w' ⟨rfl, rfl⟩
  go_wp2
  exact bodyPost_ret (v := .tuple #[.agg #[.int .i64 0, .int .i64 0], .int .i64 3]) (by simp [results, Try.results9, go_sem]) rfl ⟨rfl, Below.more (Below.more (Below.more (Below.more (Below.more (Below.more (below1 _ _) _) _) _) _) _) _⟩
theorem open_off (a b c d x y : Int) (h : Gd a b) (k : Gd c d) (m : Gd x y) (g : gv x y a b = false) (w : World) :
    Calls Try.prog 9 #[.agg #[.int .i64 a, .int .i64 b, .int .i64 c, .int .i64 d], .agg #[.int .i64 x, .int .i64 y]] w fun e w' => e = .returned (.tuple #[.agg #[.int .i64 0, .int .i64 0], .int .i64 5]) ∧ Below w.heap.size w w' := by
  go_enter Try.func9, Try.ntmps9
  go_wp2_with fail
  refine (goodBox_yes a b c d h k _).mono ?_
  rintro e w' ⟨rfl, rfl⟩
  go_wp2_with fail
  refine (good_yes x y m _).mono ?_
  rintro e w' ⟨rfl, rfl⟩
  go_wp2_with fail
  refine (gives_exact x y a b m h _).mono ?_
  rintro e w' ⟨rfl, rfl⟩
  go_wp2
  exact bodyPost_ret (v := .tuple #[.agg #[.int .i64 0, .int .i64 0], .int .i64 5]) (by simp [results, Try.results9, go_sem]) rfl ⟨rfl, Below.more (Below.more (Below.more (Below.more (Below.more (Below.more (Below.more (Below.more (Below.more (Below.more (below1 _ _) _) _) _) _) _) _) _) _) _) _⟩
theorem open_yes (a b c d x y : Int) (h : Gd a b) (k : Gd c d) (m : Gd x y) (g : gv x y a b = true) (w : World) :
    Calls Try.prog 9 #[.agg #[.int .i64 a, .int .i64 b, .int .i64 c, .int .i64 d], .agg #[.int .i64 x, .int .i64 y]] w fun e w' => e = .returned (.tuple #[.agg #[.int .i64 c, .int .i64 d], .int .i64 0]) ∧ Below w.heap.size w w' := by
  go_enter Try.func9, Try.ntmps9
  go_wp2_with fail
  refine (goodBox_yes a b c d h k _).mono ?_
  rintro e w' ⟨rfl, rfl⟩
  go_wp2_with fail
  refine (good_yes x y m _).mono ?_
  rintro e w' ⟨rfl, rfl⟩
  go_wp2_with fail
  refine (gives_exact x y a b m h _).mono ?_
  rintro e w' ⟨rfl, rfl⟩
  go_wp2
  exact bodyPost_ret (v := .tuple #[.agg #[.int .i64 c, .int .i64 d], .int .i64 0]) (by simp [results, Try.results9, go_sem]) rfl ⟨rfl, Below.more (Below.more (Below.more (Below.more (Below.more (Below.more (Below.more (Below.more (Below.more (Below.more (below1 _ _) _) _) _) _) _) _) _) _) _) _⟩
theorem rOpen_up (a b c d x y : Int) (h : ¬ Gd a b) (w : World) :
    Calls Try.prog 10 #[.agg #[.int .i64 a, .int .i64 b, .int .i64 c, .int .i64 d], .agg #[.int .i64 x, .int .i64 y]] w fun e w' => e = .returned (.tuple #[.agg #[.int .i64 0, .int .i64 0], .int .i64 3]) ∧ Below w.heap.size w w' := by
  go_enter Try.func10, Try.ntmps10
  go_wp2_with fail
  refine (rGoodBox_up a b c d h _).mono ?_
  rintro e w' ⟨rfl, rfl⟩
  go_wp2
  exact bodyPost_ret (v := .tuple #[.agg #[.int .i64 0, .int .i64 0], .int .i64 3]) (by simp [results, Try.results10, go_sem]) rfl ⟨rfl, Below.more (Below.more (Below.more (Below.more (below1 _ _) _) _) _) _⟩
theorem rOpen_low (a b c d x y : Int) (h : Gd a b) (k : ¬ Gd c d) (w : World) :
    Calls Try.prog 10 #[.agg #[.int .i64 a, .int .i64 b, .int .i64 c, .int .i64 d], .agg #[.int .i64 x, .int .i64 y]] w fun e w' => e = .returned (.tuple #[.agg #[.int .i64 0, .int .i64 0], .int .i64 3]) ∧ Below w.heap.size w w' := by
  go_enter Try.func10, Try.ntmps10
  go_wp2_with fail
  refine (rGoodBox_low a b c d h k _).mono ?_
  rintro e w' ⟨rfl, rfl⟩
  go_wp2
  exact bodyPost_ret (v := .tuple #[.agg #[.int .i64 0, .int .i64 0], .int .i64 3]) (by simp [results, Try.results10, go_sem]) rfl ⟨rfl, Below.more (Below.more (Below.more (Below.more (Below.more (below1 _ _) _) _) _) _) _⟩
theorem rOpen_bad (a b c d x y : Int) (h : Gd a b) (k : Gd c d) (m : ¬ Gd x y) (w : World) :
    Calls Try.prog 10 #[.agg #[.int .i64 a, .int .i64 b, .int .i64 c, .int .i64 d], .agg #[.int .i64 x, .int .i64 y]] w fun e w' => e = .returned (.tuple #[.agg #[.int .i64 0, .int .i64 0], .int .i64 3]) ∧ Below w.heap.size w w' := by
  go_enter Try.func10, Try.ntmps10
  go_wp2_with fail
  refine (rGoodBox_yes a b c d h k _).mono ?_
  rintro e w' ⟨rfl, rfl⟩
  go_wp2_with fail
  refine (rGood_no x y m _).mono ?_
  rintro e w' ⟨rfl, rfl⟩
  go_wp2
  exact bodyPost_ret (v := .tuple #[.agg #[.int .i64 0, .int .i64 0], .int .i64 3]) (by simp [results, Try.results10, go_sem]) rfl ⟨rfl, Below.more (Below.more (Below.more (Below.more (Below.more (Below.more (below1 _ _) _) _) _) _) _) _⟩
theorem rOpen_off (a b c d x y : Int) (h : Gd a b) (k : Gd c d) (m : Gd x y) (g : gv x y a b = false) (w : World) :
    Calls Try.prog 10 #[.agg #[.int .i64 a, .int .i64 b, .int .i64 c, .int .i64 d], .agg #[.int .i64 x, .int .i64 y]] w fun e w' => e = .returned (.tuple #[.agg #[.int .i64 0, .int .i64 0], .int .i64 5]) ∧ Below w.heap.size w w' := by
  go_enter Try.func10, Try.ntmps10
  go_wp2_with fail
  refine (rGoodBox_yes a b c d h k _).mono ?_
  rintro e w' ⟨rfl, rfl⟩
  go_wp2_with fail
  refine (rGood_yes x y m _).mono ?_
  rintro e w' ⟨rfl, rfl⟩
  go_wp2_with fail
  refine (rGives_exact x y a b m h _).mono ?_
  rintro e w' ⟨rfl, rfl⟩
  go_wp2
  exact bodyPost_ret (v := .tuple #[.agg #[.int .i64 0, .int .i64 0], .int .i64 5]) (by simp [results, Try.results10, go_sem]) rfl ⟨rfl, Below.more (Below.more (Below.more (Below.more (Below.more (Below.more (Below.more (Below.more (Below.more (Below.more (below1 _ _) _) _) _) _) _) _) _) _) _) _⟩
theorem rOpen_yes (a b c d x y : Int) (h : Gd a b) (k : Gd c d) (m : Gd x y) (g : gv x y a b = true) (w : World) :
    Calls Try.prog 10 #[.agg #[.int .i64 a, .int .i64 b, .int .i64 c, .int .i64 d], .agg #[.int .i64 x, .int .i64 y]] w fun e w' => e = .returned (.tuple #[.agg #[.int .i64 c, .int .i64 d], .int .i64 0]) ∧ Below w.heap.size w w' := by
  go_enter Try.func10, Try.ntmps10
  go_wp2_with fail
  refine (rGoodBox_yes a b c d h k _).mono ?_
  rintro e w' ⟨rfl, rfl⟩
  go_wp2_with fail
  refine (rGood_yes x y m _).mono ?_
  rintro e w' ⟨rfl, rfl⟩
  go_wp2_with fail
  refine (rGives_exact x y a b m h _).mono ?_
  rintro e w' ⟨rfl, rfl⟩
  go_wp2
  exact bodyPost_ret (v := .tuple #[.agg #[.int .i64 c, .int .i64 d], .int .i64 0]) (by simp [results, Try.results10, go_sem]) rfl ⟨rfl, Below.more (Below.more (Below.more (Below.more (Below.more (Below.more (Below.more (Below.more (Below.more (Below.more (below1 _ _) _) _) _) _) _) _) _) _) _) _⟩
end Go.Proofs.Ytdbnaoddnelebab
