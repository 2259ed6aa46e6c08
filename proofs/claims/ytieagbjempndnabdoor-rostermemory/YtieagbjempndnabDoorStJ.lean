/- Contracts: the document's Count, Take and Same; Of, the program's and the document's. -/
import Derived.Test.YtieagbjempndnabDoorStI
import Derived.BigQuiet
namespace Go.Proofs.YtieagbjempndnabDoor
open Go.RowKit Go.Maps Go.Shelf
set_option linter.unusedVariables false
set_option linter.unusedSimpArgs false

set_option maxHeartbeats 400000 in
theorem rCount_any (s : Nat) (hs : s < 18446744073709551616) (w : World) :
    Calls Tryd.prog 18 #[.int .u64 (s : Int)] w fun e w' => e = .returned (.int .i64 (((bl s).length : Nat) : Int)) ∧ Below w.heap.size w w' := by
  go_enter Tryd.func18, Tryd.ntmps18
  go_wp2_with fail
  refine (rList_any s hs _).mono ?_
  rintro e w' ⟨⟨v, rfl, hv⟩, hb⟩
  obtain ⟨a, cap, rfl⟩ := row_slice hv
  clear hv
  go_wp2_with fail
  go_ret
  exact ⟨rfl, hb⟩
theorem take_more {l : List Nat} {k : Nat} (h : k < l.length) : l.take (k + 1) = l.take k ++ [l[k]] := List.take_succ_eq_append_getElem h
theorem hd_drop {l : List Nat} {k : Nat} (h : k < l.length) : hd (l.drop k) = (l[k] : Int) := by rw [List.drop_eq_getElem_cons h]; rfl
end Go.Proofs.YtieagbjempndnabDoor
