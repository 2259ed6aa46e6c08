/- Contracts of the document's answers: digits and paths. -/
import Derived.Test.YtpkfpckljpffgaaShpE
namespace Go.Proofs.Ytpkfpckljpffgaa.Sh
open Go.RowKit

theorem rParent_yes (v : Int) (h0 : 1 ≤ v) (h1 : v < 85) (w : World) :
    Calls Try.prog 46 #[.int .i64 v] w fun e w' => e = .returned (.int .i64 ((v - 1) / 4)) ∧ w' = w := by
  rw [← par_yes h0 h1]; exact rParent_any v w
theorem rLeaf_yes (v : Int) (h0 : 0 ≤ v) (h1 : v < 64) (w : World) :
    Calls Try.prog 24 #[.int .i64 v] w fun e w' => e = .returned (.int .i64 (21 + v)) ∧ w' = w := by
  rw [← lef_yes h0 h1]; exact rLeaf_any v w
theorem rLeaf_no (v : Int) (h : v < 0 ∨ 64 ≤ v) (w : World) :
    Calls Try.prog 24 #[.int .i64 v] w fun e w' => e = .returned (.int .i64 (-1)) ∧ w' = w := by
  rw [← lef_no h]; exact rLeaf_any v w

theorem rPath_yes (s : Int) (h0 : 0 ≤ s) (h1 : s < 64) (w : World) :
    Calls Try.prog 23 #[.int .i64 s] w fun e w' => e = .returned (.tuple #[.agg #[.int .i64 (5 + s / 4), .int .i64 (1 + s / 16), .int .i64 0], .bool true]) ∧ Below w.heap.size w w' := by
  go_enter Try.func23, Try.ntmps23
  go_wp2_with (go_at_call 24; refine (rLeaf_yes _ (by omega) (by omega) _).mono ?_; rintro e w' ⟨rfl, rfl⟩)
  refine wp_loop_rounds 4 ?_
  rw [rounds_succ]; go_wp2_with (go_at_call 46; refine (rParent_yes _ (by omega) (by omega) _).mono ?_; rintro e w' ⟨rfl, rfl⟩)
  rw [rounds_succ]; go_wp2_with (go_at_call 46; refine (rParent_yes _ (by omega) (by omega) _).mono ?_; rintro e w' ⟨rfl, rfl⟩)
  rw [rounds_succ]; go_wp2_with (go_at_call 46; refine (rParent_yes _ (by omega) (by omega) _).mono ?_; rintro e w' ⟨rfl, rfl⟩)
  rw [rounds_succ]; go_wp2
  refine bodyPost_ret (v := .tuple #[.agg #[.int .i64 (5 + s / 4), .int .i64 (1 + s / 16), .int .i64 0], .bool true]) ?_ rfl ⟨rfl, ?_⟩
  · simp [results, Try.results23, go_sem]
    omega
  · exact ((Below.refl _ _).alloc (Nat.le_refl _) _).alloc (by simp) _
theorem rPath_no (s : Int) (h : s < 0 ∨ 64 ≤ s) (w : World) :
    Calls Try.prog 23 #[.int .i64 s] w fun e w' => e = .returned (.tuple #[.agg #[.int .i64 0, .int .i64 0, .int .i64 0], .bool false]) ∧ Below w.heap.size w w' := by
  go_enter Try.func23, Try.ntmps23
  go_wp2_with (go_at_call 24; refine (rLeaf_no _ h _).mono ?_; rintro e w' ⟨rfl, rfl⟩)
  exact bodyPost_ret (v := .tuple #[.agg #[.int .i64 0, .int .i64 0, .int .i64 0], .bool false]) (by simp [results, Try.results23, go_sem]) rfl ⟨rfl, ((Below.refl _ _).alloc (Nat.le_refl _) _).alloc (by simp) _⟩

end Go.Proofs.Ytpkfpckljpffgaa.Sh
