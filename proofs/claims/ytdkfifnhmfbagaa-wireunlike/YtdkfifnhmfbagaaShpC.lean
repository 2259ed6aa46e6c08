/- Contracts of the document's answers: Node, Child, Parent, Which, Level, Leaf, Slot. -/
import Derived.Test.YtdkfifnhmfbagaaShpB
namespace Go.Proofs.Ytdkfifnhmfbagaa.Sh
open Go.RowKit

theorem rNode_yes (v : Int) (h0 : 0 ≤ v) (h1 : v < 85) (w : World) :
    Calls Try.prog 72 #[.int .i64 v] w fun e w' => e = .returned (.bool true) ∧ w' = w := by
  go_enter Try.func72, Try.ntmps72
  go_wp2
  go_ret
  exact ⟨rfl, rfl⟩
theorem rNode_no (v : Int) (h : v < 0 ∨ 85 ≤ v) (w : World) :
    Calls Try.prog 72 #[.int .i64 v] w fun e w' => e = .returned (.bool false) ∧ w' = w := by
  by_cases h0 : 0 ≤ v
  · have h1 : decide (v < 85) = false := by simp; omega
    clear h
    go_enter Try.func72, Try.ntmps72
    go_wp2
    go_ret
    exact ⟨ret_bool (by first | rfl | exact h1), rfl⟩
  · clear h
    go_enter Try.func72, Try.ntmps72
    go_wp2
    go_ret
    exact ⟨rfl, rfl⟩
theorem rChild_any (v i : Int) (w : World) :
    Calls Try.prog 86 #[.int .i64 v, .int .i64 i] w fun e w' => e = .returned (.int .i64 (chd v i)) ∧ w' = w := by
  by_cases h0 : 0 ≤ v
  · by_cases h1 : v < 21
    · by_cases h2 : 0 ≤ i
      · by_cases h3 : i < 4
        · go_enter Try.func86, Try.ntmps86
          go_wp2
          go_ret
          exact ⟨ret_int (chd_yes h0 h1 h2 h3).symm, rfl⟩
        · have hp : Hid (chd v i = -1) := chd_no (by omega)
          go_enter Try.func86, Try.ntmps86
          go_wp2
          go_ret
          exact ⟨ret_int hp.out.symm, rfl⟩
      · have hp : Hid (chd v i = -1) := chd_no (by omega)
        go_enter Try.func86, Try.ntmps86
        go_wp2
        go_ret
        exact ⟨ret_int hp.out.symm, rfl⟩
    · have hp : Hid (chd v i = -1) := chd_no (by omega)
      go_enter Try.func86, Try.ntmps86
      go_wp2
      go_ret
      exact ⟨ret_int hp.out.symm, rfl⟩
  · have hp : Hid (chd v i = -1) := chd_no (by omega)
    go_enter Try.func86, Try.ntmps86
    go_wp2
    go_ret
    exact ⟨ret_int hp.out.symm, rfl⟩
end Go.Proofs.Ytdkfifnhmfbagaa.Sh
