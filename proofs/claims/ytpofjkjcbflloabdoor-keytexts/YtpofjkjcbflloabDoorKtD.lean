/- Contract: lives; the walk of KeyTexts. -/
import Derived.Test.YtpofjkjcbflloabDoorKtC
namespace Go.Proofs.YtpofjkjcbflloabDoor
open Go.RowKit Go.Lib Go.Sort
set_option linter.unusedVariables false

set_option maxHeartbeats 1000000 in
theorem ahead_73 (w : World) : Calls Tryd.prog 9 #[.agg #[.int .i64 7, .int .i64 3], .int .i64 2] w fun e w' => e = .returned (.tuple #[.agg #[.int .i64 7, .int .i64 5], .int .i64 0]) ∧ Below w.heap.size w w' := by
  go_enter Tryd.func9, Tryd.ntmps9
  go_wp2_with (go_in)
  exact bodyPost_ret (v := .tuple #[.agg #[.int .i64 7, .int .i64 5], .int .i64 0]) (by simp [results, Tryd.results9, go_sem]) rfl ⟨rfl, by repeat (first | exact below1 _ _ | apply Below.more)⟩
set_option maxHeartbeats 1000000 in
theorem pack_123 (w : World) : Calls Tryd.prog 10 #[.agg #[.int .i64 12, .int .i64 3]] w fun e w' => e = .returned (.tuple #[.int .u32 3075, .int .i64 0]) ∧ Below w.heap.size w w' := by
  have hq : bits .or .u32 3072 3 = 3075 := by decide
  go_enter Tryd.func10, Tryd.ntmps10
  go_wp2_with (go_in)
  go_ret2
  exact ⟨rfl, by repeat (first | exact below1 _ _ | apply Below.more)⟩
set_option maxHeartbeats 1000000 in
theorem lives_any (w : World) : Calls Tryd.prog 4 #[] w fun e w' => e = .returned (.bool true) ∧ Below w.heap.size w w' := by
  go_enter Tryd.func4, Tryd.ntmps4
  go_wp2_with fail
  refine (ahead_73 _).mono ?_
  rintro e w1 ⟨rfl, hb1⟩
  have HB1 : Hid (Below w.heap.size w w1) := hb1
  clear hb1
  go_wp2_with fail
  refine (pack_123 _).mono ?_
  rintro e w2 ⟨rfl, hb2⟩
  have hk : w2.heap[w1.heap.size]? = some (.cells #[.int .i64 7, .int .i64 5] 23) := blk_later (heap_alloc_new w1 _) hb2
  obtain ⟨q0, q1, -, -⟩ := two_cells hk
  have HB2 : Hid (Below w.heap.size w w2) := Below.then (Below.then HB1.out (below1 _ _)) hb2
  clear hb2 hk
  go_wp2_with fail
  go_ret
  exact ⟨ret_bool (by first | rfl | simp), HB2.out⟩
end Go.Proofs.YtpofjkjcbflloabDoor
