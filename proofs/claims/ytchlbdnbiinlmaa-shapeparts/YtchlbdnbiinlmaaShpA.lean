/- Contracts of the small functions of package shape and of the document's answers: each answers a plain function of its numbers and leaves the memory alone. -/
import Derived.Test.YtchlbdnbiinlmaaChecked
import Derived.Test.YtchlbdnbiinlmaaShpMath
import Derived.WalkKit
import Derived.ProofKit
namespace Go.Proofs.Ytchlbdnbiinlmaa
open Go.RowKit

theorem isNode_yes (v : Int) (h0 : 0 ≤ v) (h1 : v < 85) (w : World) :
    Calls Try.prog 33 #[.int .i64 v] w fun e w' => e = .returned (.bool true) ∧ w' = w := by
  go_enter Try.func33, Try.ntmps33
  go_wp2
  go_ret
  exact ⟨rfl, rfl⟩
theorem isNode_no (v : Int) (h : v < 0 ∨ 85 ≤ v) (w : World) :
    Calls Try.prog 33 #[.int .i64 v] w fun e w' => e = .returned (.bool false) ∧ w' = w := by
  by_cases h0 : 0 ≤ v
  · have h1 : decide (v < 85) = false := by simp; omega
    clear h
    go_enter Try.func33, Try.ntmps33
    go_wp2
    go_ret
    exact ⟨ret_bool (by first | rfl | exact h1), rfl⟩
  · clear h
    go_enter Try.func33, Try.ntmps33
    go_wp2
    go_ret
    exact ⟨rfl, rfl⟩
theorem isNode_any (v : Int) (w : World) :
    Calls Try.prog 33 #[.int .i64 v] w fun e w' => e = .returned (.bool (nodeB v)) ∧ w' = w := by
  by_cases h : 0 ≤ v ∧ v < 85
  · rw [nodeB_yes h.1 h.2]; exact isNode_yes v h.1 h.2 w
  · rw [nodeB_no (by omega)]; exact isNode_no v (by omega) w

theorem isInner_yes (v : Int) (h0 : 0 ≤ v) (h1 : v < 21) (w : World) :
    Calls Try.prog 36 #[.int .i64 v] w fun e w' => e = .returned (.bool true) ∧ w' = w := by
  go_enter Try.func36, Try.ntmps36
  go_wp2
  go_ret
  exact ⟨rfl, rfl⟩
theorem isInner_no (v : Int) (h : v < 0 ∨ 21 ≤ v) (w : World) :
    Calls Try.prog 36 #[.int .i64 v] w fun e w' => e = .returned (.bool false) ∧ w' = w := by
  by_cases h0 : 0 ≤ v
  · have h1 : decide (v < 21) = false := by simp; omega
    clear h
    go_enter Try.func36, Try.ntmps36
    go_wp2
    go_ret
    exact ⟨ret_bool (by first | rfl | exact h1), rfl⟩
  · clear h
    go_enter Try.func36, Try.ntmps36
    go_wp2
    go_ret
    exact ⟨rfl, rfl⟩

theorem parent_any (v : Int) (w : World) :
    Calls Try.prog 12 #[.int .i64 v] w fun e w' => e = .returned (.int .i64 (par v)) ∧ w' = w := by
  by_cases h : 1 ≤ v ∧ v < 85
  · obtain ⟨h0, h1⟩ := h
    have hb : (v == 0) = false := by simp; omega
    go_enter Try.func12, Try.ntmps12
    go_wp2_with (go_at_call 33; refine (isNode_yes _ (by omega) (by omega) _).mono ?_; rintro e w' ⟨rfl, rfl⟩)
    go_ret
    exact ⟨ret_int (par_yes h0 h1).symm, rfl⟩
  · have hp : Hid (par v = -1) := par_no (by omega)
    by_cases hz : v = 0
    · subst hz
      go_enter Try.func12, Try.ntmps12
      go_wp2
      go_ret
      exact ⟨rfl, rfl⟩
    · have hb : (v == 0) = false := by simpa using hz
      go_enter Try.func12, Try.ntmps12
      go_wp2_with (go_at_call 33; refine (isNode_no _ (by omega) _).mono ?_; rintro e w' ⟨rfl, rfl⟩)
      go_ret
      exact ⟨ret_int hp.out.symm, rfl⟩

theorem which_any (v : Int) (w : World) :
    Calls Try.prog 16 #[.int .i64 v] w fun e w' => e = .returned (.int .i64 (whc v)) ∧ w' = w := by
  by_cases h : 1 ≤ v ∧ v < 85
  · obtain ⟨h0, h1⟩ := h
    have hb : (v == 0) = false := by simp; omega
    go_enter Try.func16, Try.ntmps16
    go_wp2_with (go_at_call 33; refine (isNode_yes _ (by omega) (by omega) _).mono ?_; rintro e w' ⟨rfl, rfl⟩)
    go_ret
    exact ⟨ret_int ((and3 _ (by omega) (by omega)).trans (whc_yes h0 h1).symm), rfl⟩
  · have hp : Hid (whc v = -1) := whc_no (by omega)
    by_cases hz : v = 0
    · subst hz
      go_enter Try.func16, Try.ntmps16
      go_wp2
      go_ret
      exact ⟨rfl, rfl⟩
    · have hb : (v == 0) = false := by simpa using hz
      go_enter Try.func16, Try.ntmps16
      go_wp2_with (go_at_call 33; refine (isNode_no _ (by omega) _).mono ?_; rintro e w' ⟨rfl, rfl⟩)
      go_ret
      exact ⟨ret_int hp.out.symm, rfl⟩

theorem child_any (v i : Int) (w : World) :
    Calls Try.prog 14 #[.int .i64 v, .int .i64 i] w fun e w' => e = .returned (.int .i64 (chd v i)) ∧ w' = w := by
  by_cases h : 0 ≤ v ∧ v < 21
  · obtain ⟨h0, h1⟩ := h
    by_cases h2 : 0 ≤ i
    · by_cases h3 : i < 4
      · go_enter Try.func14, Try.ntmps14
        go_wp2_with (go_at_call 36; refine (isInner_yes _ (by omega) (by omega) _).mono ?_; rintro e w' ⟨rfl, rfl⟩)
        go_ret
        exact ⟨ret_int (by rw [chd_yes h0 h1 h2 h3]; omega), rfl⟩
      · have hp : Hid (chd v i = -1) := chd_no (by omega)
        go_enter Try.func14, Try.ntmps14
        go_wp2_with (go_at_call 36; refine (isInner_yes _ (by omega) (by omega) _).mono ?_; rintro e w' ⟨rfl, rfl⟩)
        go_ret
        exact ⟨ret_int hp.out.symm, rfl⟩
    · have hp : Hid (chd v i = -1) := chd_no (by omega)
      go_enter Try.func14, Try.ntmps14
      go_wp2_with (go_at_call 36; refine (isInner_yes _ (by omega) (by omega) _).mono ?_; rintro e w' ⟨rfl, rfl⟩)
      go_ret
      exact ⟨ret_int hp.out.symm, rfl⟩
  · have hp : Hid (chd v i = -1) := chd_no (by omega)
    go_enter Try.func14, Try.ntmps14
    go_wp2_with (go_at_call 36; refine (isInner_no _ (by omega) _).mono ?_; rintro e w' ⟨rfl, rfl⟩)
    go_ret
    exact ⟨ret_int hp.out.symm, rfl⟩
end Go.Proofs.Ytchlbdnbiinlmaa
