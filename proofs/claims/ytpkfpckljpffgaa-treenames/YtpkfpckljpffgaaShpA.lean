/- Contracts of the small functions of package shape and of the document's answers: each answers a plain function of its numbers and leaves the memory alone. -/
import Derived.Test.YtpkfpckljpffgaaChecked
import Derived.Test.YtpkfpckljpffgaaShpMath
import Derived.WalkKit
import Derived.ProofKit
namespace Go.Proofs.Ytpkfpckljpffgaa.Sh
open Go.RowKit

theorem isNode_yes (v : Int) (h0 : 0 ≤ v) (h1 : v < 85) (w : World) :
    Calls Try.prog 55 #[.int .i64 v] w fun e w' => e = .returned (.bool true) ∧ w' = w := by
  go_enter Try.func55, Try.ntmps55
  go_wp2
  go_ret
  exact ⟨rfl, rfl⟩
theorem isNode_no (v : Int) (h : v < 0 ∨ 85 ≤ v) (w : World) :
    Calls Try.prog 55 #[.int .i64 v] w fun e w' => e = .returned (.bool false) ∧ w' = w := by
  by_cases h0 : 0 ≤ v
  · have h1 : decide (v < 85) = false := by simp; omega
    clear h
    go_enter Try.func55, Try.ntmps55
    go_wp2
    go_ret
    exact ⟨ret_bool (by first | rfl | exact h1), rfl⟩
  · clear h
    go_enter Try.func55, Try.ntmps55
    go_wp2
    go_ret
    exact ⟨rfl, rfl⟩
theorem isNode_any (v : Int) (w : World) :
    Calls Try.prog 55 #[.int .i64 v] w fun e w' => e = .returned (.bool (nodeB v)) ∧ w' = w := by
  by_cases h : 0 ≤ v ∧ v < 85
  · rw [nodeB_yes h.1 h.2]; exact isNode_yes v h.1 h.2 w
  · rw [nodeB_no (by omega)]; exact isNode_no v (by omega) w

theorem isInner_yes (v : Int) (h0 : 0 ≤ v) (h1 : v < 21) (w : World) :
    Calls Try.prog 57 #[.int .i64 v] w fun e w' => e = .returned (.bool true) ∧ w' = w := by
  go_enter Try.func57, Try.ntmps57
  go_wp2
  go_ret
  exact ⟨rfl, rfl⟩
theorem isInner_no (v : Int) (h : v < 0 ∨ 21 ≤ v) (w : World) :
    Calls Try.prog 57 #[.int .i64 v] w fun e w' => e = .returned (.bool false) ∧ w' = w := by
  by_cases h0 : 0 ≤ v
  · have h1 : decide (v < 21) = false := by simp; omega
    clear h
    go_enter Try.func57, Try.ntmps57
    go_wp2
    go_ret
    exact ⟨ret_bool (by first | rfl | exact h1), rfl⟩
  · clear h
    go_enter Try.func57, Try.ntmps57
    go_wp2
    go_ret
    exact ⟨rfl, rfl⟩

theorem child_any (v i : Int) (w : World) :
    Calls Try.prog 61 #[.int .i64 v, .int .i64 i] w fun e w' => e = .returned (.int .i64 (chd v i)) ∧ w' = w := by
  by_cases h : 0 ≤ v ∧ v < 21
  · obtain ⟨h0, h1⟩ := h
    by_cases h2 : 0 ≤ i
    · by_cases h3 : i < 4
      · go_enter Try.func61, Try.ntmps61
        go_wp2_with (go_at_call 57; refine (isInner_yes _ (by omega) (by omega) _).mono ?_; rintro e w' ⟨rfl, rfl⟩)
        go_ret
        exact ⟨ret_int (by rw [chd_yes h0 h1 h2 h3]; omega), rfl⟩
      · have hp : Hid (chd v i = -1) := chd_no (by omega)
        go_enter Try.func61, Try.ntmps61
        go_wp2_with (go_at_call 57; refine (isInner_yes _ (by omega) (by omega) _).mono ?_; rintro e w' ⟨rfl, rfl⟩)
        go_ret
        exact ⟨ret_int hp.out.symm, rfl⟩
    · have hp : Hid (chd v i = -1) := chd_no (by omega)
      go_enter Try.func61, Try.ntmps61
      go_wp2_with (go_at_call 57; refine (isInner_yes _ (by omega) (by omega) _).mono ?_; rintro e w' ⟨rfl, rfl⟩)
      go_ret
      exact ⟨ret_int hp.out.symm, rfl⟩
  · have hp : Hid (chd v i = -1) := chd_no (by omega)
    go_enter Try.func61, Try.ntmps61
    go_wp2_with (go_at_call 57; refine (isInner_no _ (by omega) _).mono ?_; rintro e w' ⟨rfl, rfl⟩)
    go_ret
    exact ⟨ret_int hp.out.symm, rfl⟩
end Go.Proofs.Ytpkfpckljpffgaa.Sh
