/- The walk of KeyTexts. -/
import Derived.Test.YtpofjkjcbflloabDoorKtD
namespace Go.Proofs.YtpofjkjcbflloabDoor
open Go.RowKit Go.Lib Go.Sort
set_option linter.unusedVariables false

theorem empty_far {S : ByteArray} (h : S ≠ ⟨#[]⟩) : (S.toList == []) = false ∧ ¬ S.toList = [] := by
  obtain ⟨h1, h2⟩ := tt_far h
  have e : (⟨#[]⟩ : ByteArray).toList = [] := by rw [Lib.toList_data]
  rw [e] at h1 h2
  exact ⟨h1, h2⟩
set_option maxHeartbeats 4000000 in
set_option maxRecDepth 100000 in
theorem walk_yy (b s X Y : Int) (S text : ByteArray) (w : World) (hv : Vs w) (hS : S ≠ ⟨#[]⟩)
    (cT : ∀ w0, Vs w0 → Calls Tryd.prog 5 #[.agg #[.int .i64 b, .int .i64 s]] w0 fun e w' => e = .returned (.tuple #[.string S, .int .i64 0]) ∧ Below w0.heap.size w0 w')
    (rT : ∀ w0, Vs w0 → Calls Tryd.prog 6 #[.agg #[.int .i64 b, .int .i64 s]] w0 fun e w' => e = .returned (.tuple #[.string S, .int .i64 0]) ∧ Below w0.heap.size w0 w')
    (cP : ∀ w0, Vs w0 → Calls Tryd.prog 7 #[.string text] w0 fun e w' => e = .returned (.tuple #[.agg #[.int .i64 X, .int .i64 Y], .int .i64 0]) ∧ Below w0.heap.size w0 w')
    (rP : ∀ w0, Vs w0 → Calls Tryd.prog 8 #[.string text] w0 fun e w' => e = .returned (.tuple #[.agg #[.int .i64 X, .int .i64 Y], .int .i64 0]) ∧ Below w0.heap.size w0 w')
    (cT2 : ∀ w0, Vs w0 → Calls Tryd.prog 5 #[.agg #[.int .i64 X, .int .i64 Y]] w0 fun e w' => e = .returned (.tuple #[.string text, .int .i64 0]) ∧ Below w0.heap.size w0 w')
    (cP2 : ∀ w0, Vs w0 → Calls Tryd.prog 7 #[.string S] w0 fun e w' => e = .returned (.tuple #[.agg #[.int .i64 b, .int .i64 s], .int .i64 0]) ∧ Below w0.heap.size w0 w') :
    Calls Tryd.prog 3 #[.agg #[.int .i64 b, .int .i64 s], .string text] w fun e w' => e = .returned (.bool true) ∧ Below w.heap.size w w' := by
  have HV : Hid (Vs w) := hv
  obtain ⟨hS1, hS2⟩ := empty_far hS
  clear hv hS
  go_enter Tryd.func3, Tryd.ntmps3
  go_wp2_with fail
  refine (lives_any _).mono ?_
  rintro e w1 ⟨rfl, hb1⟩
  have HK1 : Hid (w1.heap[w.heap.size]? = some (.cells #[.int .i64 b, .int .i64 s] 23)) := blk_later (heap_alloc_new w _) hb1
  have HB1 : Hid (Below w.heap.size w w1) := Below.then (below1 _ _) hb1
  have HV1 : Hid (Vs w1) := HV.out.later HB1.out
  obtain ⟨q0, q1, -, -⟩ := two_cells HK1.out
  clear hb1
  go_wp2_with fail
  refine (cT _ HV1.out).mono ?_
  rintro e w2 ⟨rfl, hb2⟩
  have HK2 : Hid (w2.heap[w.heap.size]? = some (.cells #[.int .i64 b, .int .i64 s] 23)) := blk_later HK1.out hb2
  have HB2 : Hid (Below w.heap.size w w2) := Below.then HB1.out hb2
  have HV2 : Hid (Vs w2) := HV.out.later HB2.out
  obtain ⟨q0, q1, -, -⟩ := two_cells HK2.out
  clear hb2
  go_wp2_with fail
  refine (rT _ HV2.out).mono ?_
  rintro e w3 ⟨rfl, hb3⟩
  have HK3 : Hid (w3.heap[w.heap.size]? = some (.cells #[.int .i64 b, .int .i64 s] 23)) := blk_later HK2.out hb3
  have HB3 : Hid (Below w.heap.size w w3) := Below.then HB2.out hb3
  have HV3 : Hid (Vs w3) := HV.out.later HB3.out
  clear hb3
  go_wp2_with fail
  refine (cP _ HV3.out).mono ?_
  rintro e w4 ⟨rfl, hb4⟩
  have HK4 : Hid (w4.heap[w.heap.size]? = some (.cells #[.int .i64 b, .int .i64 s] 23)) := blk_later HK3.out hb4
  have HB4 : Hid (Below w.heap.size w w4) := Below.then HB3.out hb4
  have hs4 : w.heap.size < w4.heap.size := (Array.getElem?_eq_some_iff.1 HK4.out).1
  clear hb4
  go_wp2_with fail
  have HV4 : Hid (Vs (w4.alloc (.cells #[.int .i64 X, .int .i64 Y] 23))) := HV.out.later (Below.more HB4.out _)
  refine (rP _ HV4.out).mono ?_
  rintro e w5 ⟨rfl, hb5⟩
  have HX5 : Hid (w5.heap[w4.heap.size]? = some (.cells #[.int .i64 X, .int .i64 Y] 23)) := blk_later (heap_alloc_new w4 _) hb5
  have HK5 : Hid (w5.heap[w.heap.size]? = some (.cells #[.int .i64 b, .int .i64 s] 23)) := blk_later (blk_later HK4.out (below1 _ _)) hb5
  have HB5 : Hid (Below w.heap.size w w5) := Below.then (Below.more HB4.out _) hb5
  have HV5 : Hid (Vs w5) := HV.out.later HB5.out
  have x0 : ∀ o, (w5.alloc o).cell? ⟨w4.heap.size, 0, none⟩ = some (.int .i64 X) := fun o => (two_cells (blk_later HX5.out (below1 _ o))).1
  have x1 : ∀ o, (w5.alloc o).cell? ⟨w4.heap.size, 1, none⟩ = some (.int .i64 Y) := fun o => (two_cells (blk_later HX5.out (below1 _ o))).2.1
  clear hb5
  go_wp2_with fail
  have HV6 : Hid (Vs (w5.alloc (.cells #[.int .i64 X, .int .i64 Y] 23))) := HV5.out.later (below1 _ _)
  refine (cT2 _ HV6.out).mono ?_
  rintro e w6 ⟨rfl, hb6⟩
  have HX6 : Hid (w6.heap[w4.heap.size]? = some (.cells #[.int .i64 X, .int .i64 Y] 23)) := blk_later (blk_later HX5.out (below1 _ _)) hb6
  have HK6 : Hid (w6.heap[w.heap.size]? = some (.cells #[.int .i64 b, .int .i64 s] 23)) := blk_later (blk_later HK5.out (below1 _ _)) hb6
  have HB6 : Hid (Below w.heap.size w w6) := Below.then (Below.more HB5.out _) hb6
  have HV7 : Hid (Vs w6) := HV.out.later HB6.out
  clear hb6 x0 x1
  go_wp2_with fail
  refine (cP2 _ HV7.out).mono ?_
  rintro e w7 ⟨rfl, hb7⟩
  have hx7 := blk_later HX6.out hb7
  have hk7 := blk_later HK6.out hb7
  have HB7 : Hid (Below w.heap.size w w7) := Below.then HB6.out hb7
  obtain ⟨x0, x1, y0, y1⟩ := two_cells hx7
  obtain ⟨q0, q1, -, -⟩ := two_cells hk7
  have hne : w4.heap.size ≠ w.heap.size := by omega
  have hne2 : w.heap.size ≠ w4.heap.size := by omega
  clear hx7 hk7 hb7
  go_wp2_with fail
  go_ret
  exact ⟨ret_bool (by first | rfl | simp), (HB7.out.setCell (p := ⟨w4.heap.size, 0, none⟩) (by show w.heap.size ≤ w4.heap.size; omega) _).setCell (p := ⟨w4.heap.size, 1, none⟩) (by show w.heap.size ≤ w4.heap.size; omega) _⟩
set_option maxHeartbeats 4000000 in
set_option maxRecDepth 100000 in
theorem walk_yn (b s X Y : Int) (S text : ByteArray) (w : World) (hv : Vs w) (hS : S ≠ ⟨#[]⟩)
    (cT : ∀ w0, Vs w0 → Calls Tryd.prog 5 #[.agg #[.int .i64 b, .int .i64 s]] w0 fun e w' => e = .returned (.tuple #[.string S, .int .i64 0]) ∧ Below w0.heap.size w0 w')
    (rT : ∀ w0, Vs w0 → Calls Tryd.prog 6 #[.agg #[.int .i64 b, .int .i64 s]] w0 fun e w' => e = .returned (.tuple #[.string S, .int .i64 0]) ∧ Below w0.heap.size w0 w')
    (cP : ∀ w0, Vs w0 → Calls Tryd.prog 7 #[.string text] w0 fun e w' => e = .returned (.tuple #[.agg #[.int .i64 X, .int .i64 Y], .int .i64 25]) ∧ Below w0.heap.size w0 w')
    (rP : ∀ w0, Vs w0 → Calls Tryd.prog 8 #[.string text] w0 fun e w' => e = .returned (.tuple #[.agg #[.int .i64 X, .int .i64 Y], .int .i64 25]) ∧ Below w0.heap.size w0 w')
    (cP2 : ∀ w0, Vs w0 → Calls Tryd.prog 7 #[.string S] w0 fun e w' => e = .returned (.tuple #[.agg #[.int .i64 b, .int .i64 s], .int .i64 0]) ∧ Below w0.heap.size w0 w') :
    Calls Tryd.prog 3 #[.agg #[.int .i64 b, .int .i64 s], .string text] w fun e w' => e = .returned (.bool true) ∧ Below w.heap.size w w' := by
  have HV : Hid (Vs w) := hv
  obtain ⟨hS1, hS2⟩ := empty_far hS
  clear hv hS
  go_enter Tryd.func3, Tryd.ntmps3
  go_wp2_with fail
  refine (lives_any _).mono ?_
  rintro e w1 ⟨rfl, hb1⟩
  have HK1 : Hid (w1.heap[w.heap.size]? = some (.cells #[.int .i64 b, .int .i64 s] 23)) := blk_later (heap_alloc_new w _) hb1
  have HB1 : Hid (Below w.heap.size w w1) := Below.then (below1 _ _) hb1
  have HV1 : Hid (Vs w1) := HV.out.later HB1.out
  obtain ⟨q0, q1, -, -⟩ := two_cells HK1.out
  clear hb1
  go_wp2_with fail
  refine (cT _ HV1.out).mono ?_
  rintro e w2 ⟨rfl, hb2⟩
  have HK2 : Hid (w2.heap[w.heap.size]? = some (.cells #[.int .i64 b, .int .i64 s] 23)) := blk_later HK1.out hb2
  have HB2 : Hid (Below w.heap.size w w2) := Below.then HB1.out hb2
  have HV2 : Hid (Vs w2) := HV.out.later HB2.out
  obtain ⟨q0, q1, -, -⟩ := two_cells HK2.out
  clear hb2
  go_wp2_with fail
  refine (rT _ HV2.out).mono ?_
  rintro e w3 ⟨rfl, hb3⟩
  have HK3 : Hid (w3.heap[w.heap.size]? = some (.cells #[.int .i64 b, .int .i64 s] 23)) := blk_later HK2.out hb3
  have HB3 : Hid (Below w.heap.size w w3) := Below.then HB2.out hb3
  have HV3 : Hid (Vs w3) := HV.out.later HB3.out
  clear hb3
  go_wp2_with fail
  refine (cP _ HV3.out).mono ?_
  rintro e w4 ⟨rfl, hb4⟩
  have HK4 : Hid (w4.heap[w.heap.size]? = some (.cells #[.int .i64 b, .int .i64 s] 23)) := blk_later HK3.out hb4
  have HB4 : Hid (Below w.heap.size w w4) := Below.then HB3.out hb4
  have hs4 : w.heap.size < w4.heap.size := (Array.getElem?_eq_some_iff.1 HK4.out).1
  clear hb4
  go_wp2_with fail
  have HV4 : Hid (Vs (w4.alloc (.cells #[.int .i64 X, .int .i64 Y] 23))) := HV.out.later (Below.more HB4.out _)
  refine (rP _ HV4.out).mono ?_
  rintro e w5 ⟨rfl, hb5⟩
  have HX5 : Hid (w5.heap[w4.heap.size]? = some (.cells #[.int .i64 X, .int .i64 Y] 23)) := blk_later (heap_alloc_new w4 _) hb5
  have HK5 : Hid (w5.heap[w.heap.size]? = some (.cells #[.int .i64 b, .int .i64 s] 23)) := blk_later (blk_later HK4.out (below1 _ _)) hb5
  have HB5 : Hid (Below w.heap.size w w5) := Below.then (Below.more HB4.out _) hb5
  have HV5 : Hid (Vs w5) := HV.out.later HB5.out
  have x0 : ∀ o, (w5.alloc o).cell? ⟨w4.heap.size, 0, none⟩ = some (.int .i64 X) := fun o => (two_cells (blk_later HX5.out (below1 _ o))).1
  have x1 : ∀ o, (w5.alloc o).cell? ⟨w4.heap.size, 1, none⟩ = some (.int .i64 Y) := fun o => (two_cells (blk_later HX5.out (below1 _ o))).2.1
  clear hb5
  go_wp2_with fail
  obtain ⟨w6, hw6⟩ : ∃ w6, w5.alloc (.cells #[.int .i64 X, .int .i64 Y] 23) = w6 := ⟨_, rfl⟩
  have HX6 : Hid (w6.heap[w4.heap.size]? = some (.cells #[.int .i64 X, .int .i64 Y] 23)) := by rw [← hw6]; exact blk_later HX5.out (below1 _ _)
  have HK6 : Hid (w6.heap[w.heap.size]? = some (.cells #[.int .i64 b, .int .i64 s] 23)) := by rw [← hw6]; exact blk_later HK5.out (below1 _ _)
  have HB6 : Hid (Below w.heap.size w w6) := by rw [← hw6]; exact Below.more HB5.out _
  have HV7 : Hid (Vs w6) := HV.out.later HB6.out
  rw [hw6]
  clear hw6
  refine (cP2 _ HV7.out).mono ?_
  rintro e w7 ⟨rfl, hb7⟩
  have hx7 := blk_later HX6.out hb7
  have hk7 := blk_later HK6.out hb7
  have HB7 : Hid (Below w.heap.size w w7) := Below.then HB6.out hb7
  obtain ⟨x0, x1, y0, y1⟩ := two_cells hx7
  obtain ⟨q0, q1, -, -⟩ := two_cells hk7
  have hne : w4.heap.size ≠ w.heap.size := by omega
  have hne2 : w.heap.size ≠ w4.heap.size := by omega
  clear hx7 hk7 hb7
  go_wp2_with fail
  go_ret
  exact ⟨ret_bool (by first | rfl | simp), (HB7.out.setCell (p := ⟨w4.heap.size, 0, none⟩) (by show w.heap.size ≤ w4.heap.size; omega) _).setCell (p := ⟨w4.heap.size, 1, none⟩) (by show w.heap.size ≤ w4.heap.size; omega) _⟩
set_option maxHeartbeats 4000000 in
set_option maxRecDepth 100000 in
theorem walk_ny (b s X Y : Int) (text : ByteArray) (w : World) (hv : Vs w)
    (cT : ∀ w0, Vs w0 → Calls Tryd.prog 5 #[.agg #[.int .i64 b, .int .i64 s]] w0 fun e w' => e = .returned (.tuple #[.string ⟨#[]⟩, .int .i64 3]) ∧ Below w0.heap.size w0 w')
    (rT : ∀ w0, Vs w0 → Calls Tryd.prog 6 #[.agg #[.int .i64 b, .int .i64 s]] w0 fun e w' => e = .returned (.tuple #[.string ⟨#[]⟩, .int .i64 3]) ∧ Below w0.heap.size w0 w')
    (cP : ∀ w0, Vs w0 → Calls Tryd.prog 7 #[.string text] w0 fun e w' => e = .returned (.tuple #[.agg #[.int .i64 X, .int .i64 Y], .int .i64 0]) ∧ Below w0.heap.size w0 w')
    (rP : ∀ w0, Vs w0 → Calls Tryd.prog 8 #[.string text] w0 fun e w' => e = .returned (.tuple #[.agg #[.int .i64 X, .int .i64 Y], .int .i64 0]) ∧ Below w0.heap.size w0 w')
    (cT2 : ∀ w0, Vs w0 → Calls Tryd.prog 5 #[.agg #[.int .i64 X, .int .i64 Y]] w0 fun e w' => e = .returned (.tuple #[.string text, .int .i64 0]) ∧ Below w0.heap.size w0 w') :
    Calls Tryd.prog 3 #[.agg #[.int .i64 b, .int .i64 s], .string text] w fun e w' => e = .returned (.bool true) ∧ Below w.heap.size w w' := by
  have HV : Hid (Vs w) := hv
  clear hv
  go_enter Tryd.func3, Tryd.ntmps3
  go_wp2_with fail
  refine (lives_any _).mono ?_
  rintro e w1 ⟨rfl, hb1⟩
  have HK1 : Hid (w1.heap[w.heap.size]? = some (.cells #[.int .i64 b, .int .i64 s] 23)) := blk_later (heap_alloc_new w _) hb1
  have HB1 : Hid (Below w.heap.size w w1) := Below.then (below1 _ _) hb1
  have HV1 : Hid (Vs w1) := HV.out.later HB1.out
  obtain ⟨q0, q1, -, -⟩ := two_cells HK1.out
  clear hb1
  go_wp2_with fail
  refine (cT _ HV1.out).mono ?_
  rintro e w2 ⟨rfl, hb2⟩
  have HK2 : Hid (w2.heap[w.heap.size]? = some (.cells #[.int .i64 b, .int .i64 s] 23)) := blk_later HK1.out hb2
  have HB2 : Hid (Below w.heap.size w w2) := Below.then HB1.out hb2
  have HV2 : Hid (Vs w2) := HV.out.later HB2.out
  obtain ⟨q0, q1, -, -⟩ := two_cells HK2.out
  clear hb2
  go_wp2_with fail
  refine (rT _ HV2.out).mono ?_
  rintro e w3 ⟨rfl, hb3⟩
  have HK3 : Hid (w3.heap[w.heap.size]? = some (.cells #[.int .i64 b, .int .i64 s] 23)) := blk_later HK2.out hb3
  have HB3 : Hid (Below w.heap.size w w3) := Below.then HB2.out hb3
  have HV3 : Hid (Vs w3) := HV.out.later HB3.out
  clear hb3
  go_wp2_with fail
  refine (cP _ HV3.out).mono ?_
  rintro e w4 ⟨rfl, hb4⟩
  have HK4 : Hid (w4.heap[w.heap.size]? = some (.cells #[.int .i64 b, .int .i64 s] 23)) := blk_later HK3.out hb4
  have HB4 : Hid (Below w.heap.size w w4) := Below.then HB3.out hb4
  have hs4 : w.heap.size < w4.heap.size := (Array.getElem?_eq_some_iff.1 HK4.out).1
  clear hb4
  go_wp2_with fail
  have HV4 : Hid (Vs (w4.alloc (.cells #[.int .i64 X, .int .i64 Y] 23))) := HV.out.later (Below.more HB4.out _)
  refine (rP _ HV4.out).mono ?_
  rintro e w5 ⟨rfl, hb5⟩
  have HX5 : Hid (w5.heap[w4.heap.size]? = some (.cells #[.int .i64 X, .int .i64 Y] 23)) := blk_later (heap_alloc_new w4 _) hb5
  have HK5 : Hid (w5.heap[w.heap.size]? = some (.cells #[.int .i64 b, .int .i64 s] 23)) := blk_later (blk_later HK4.out (below1 _ _)) hb5
  have HB5 : Hid (Below w.heap.size w w5) := Below.then (Below.more HB4.out _) hb5
  have HV5 : Hid (Vs w5) := HV.out.later HB5.out
  have x0 : ∀ o, (w5.alloc o).cell? ⟨w4.heap.size, 0, none⟩ = some (.int .i64 X) := fun o => (two_cells (blk_later HX5.out (below1 _ o))).1
  have x1 : ∀ o, (w5.alloc o).cell? ⟨w4.heap.size, 1, none⟩ = some (.int .i64 Y) := fun o => (two_cells (blk_later HX5.out (below1 _ o))).2.1
  clear hb5
  go_wp2_with fail
  have HV6 : Hid (Vs (w5.alloc (.cells #[.int .i64 X, .int .i64 Y] 23))) := HV5.out.later (below1 _ _)
  refine (cT2 _ HV6.out).mono ?_
  rintro e w6 ⟨rfl, hb6⟩
  have HX6 : Hid (w6.heap[w4.heap.size]? = some (.cells #[.int .i64 X, .int .i64 Y] 23)) := blk_later (blk_later HX5.out (below1 _ _)) hb6
  have HK6 : Hid (w6.heap[w.heap.size]? = some (.cells #[.int .i64 b, .int .i64 s] 23)) := blk_later (blk_later HK5.out (below1 _ _)) hb6
  have HB6 : Hid (Below w.heap.size w w6) := Below.then (Below.more HB5.out _) hb6
  have HV7 : Hid (Vs w6) := HV.out.later HB6.out
  clear hb6 x0 x1
  go_wp2_with fail
  go_ret
  exact ⟨rfl, HB6.out⟩
set_option maxHeartbeats 4000000 in
set_option maxRecDepth 100000 in
theorem walk_nn (b s X Y : Int) (text : ByteArray) (w : World) (hv : Vs w)
    (cT : ∀ w0, Vs w0 → Calls Tryd.prog 5 #[.agg #[.int .i64 b, .int .i64 s]] w0 fun e w' => e = .returned (.tuple #[.string ⟨#[]⟩, .int .i64 3]) ∧ Below w0.heap.size w0 w')
    (rT : ∀ w0, Vs w0 → Calls Tryd.prog 6 #[.agg #[.int .i64 b, .int .i64 s]] w0 fun e w' => e = .returned (.tuple #[.string ⟨#[]⟩, .int .i64 3]) ∧ Below w0.heap.size w0 w')
    (cP : ∀ w0, Vs w0 → Calls Tryd.prog 7 #[.string text] w0 fun e w' => e = .returned (.tuple #[.agg #[.int .i64 X, .int .i64 Y], .int .i64 25]) ∧ Below w0.heap.size w0 w')
    (rP : ∀ w0, Vs w0 → Calls Tryd.prog 8 #[.string text] w0 fun e w' => e = .returned (.tuple #[.agg #[.int .i64 X, .int .i64 Y], .int .i64 25]) ∧ Below w0.heap.size w0 w') :
    Calls Tryd.prog 3 #[.agg #[.int .i64 b, .int .i64 s], .string text] w fun e w' => e = .returned (.bool true) ∧ Below w.heap.size w w' := by
  have HV : Hid (Vs w) := hv
  clear hv
  go_enter Tryd.func3, Tryd.ntmps3
  go_wp2_with fail
  refine (lives_any _).mono ?_
  rintro e w1 ⟨rfl, hb1⟩
  have HK1 : Hid (w1.heap[w.heap.size]? = some (.cells #[.int .i64 b, .int .i64 s] 23)) := blk_later (heap_alloc_new w _) hb1
  have HB1 : Hid (Below w.heap.size w w1) := Below.then (below1 _ _) hb1
  have HV1 : Hid (Vs w1) := HV.out.later HB1.out
  obtain ⟨q0, q1, -, -⟩ := two_cells HK1.out
  clear hb1
  go_wp2_with fail
  refine (cT _ HV1.out).mono ?_
  rintro e w2 ⟨rfl, hb2⟩
  have HK2 : Hid (w2.heap[w.heap.size]? = some (.cells #[.int .i64 b, .int .i64 s] 23)) := blk_later HK1.out hb2
  have HB2 : Hid (Below w.heap.size w w2) := Below.then HB1.out hb2
  have HV2 : Hid (Vs w2) := HV.out.later HB2.out
  obtain ⟨q0, q1, -, -⟩ := two_cells HK2.out
  clear hb2
  go_wp2_with fail
  refine (rT _ HV2.out).mono ?_
  rintro e w3 ⟨rfl, hb3⟩
  have HK3 : Hid (w3.heap[w.heap.size]? = some (.cells #[.int .i64 b, .int .i64 s] 23)) := blk_later HK2.out hb3
  have HB3 : Hid (Below w.heap.size w w3) := Below.then HB2.out hb3
  have HV3 : Hid (Vs w3) := HV.out.later HB3.out
  clear hb3
  go_wp2_with fail
  refine (cP _ HV3.out).mono ?_
  rintro e w4 ⟨rfl, hb4⟩
  have HK4 : Hid (w4.heap[w.heap.size]? = some (.cells #[.int .i64 b, .int .i64 s] 23)) := blk_later HK3.out hb4
  have HB4 : Hid (Below w.heap.size w w4) := Below.then HB3.out hb4
  have hs4 : w.heap.size < w4.heap.size := (Array.getElem?_eq_some_iff.1 HK4.out).1
  clear hb4
  go_wp2_with fail
  have HV4 : Hid (Vs (w4.alloc (.cells #[.int .i64 X, .int .i64 Y] 23))) := HV.out.later (Below.more HB4.out _)
  refine (rP _ HV4.out).mono ?_
  rintro e w5 ⟨rfl, hb5⟩
  have HX5 : Hid (w5.heap[w4.heap.size]? = some (.cells #[.int .i64 X, .int .i64 Y] 23)) := blk_later (heap_alloc_new w4 _) hb5
  have HK5 : Hid (w5.heap[w.heap.size]? = some (.cells #[.int .i64 b, .int .i64 s] 23)) := blk_later (blk_later HK4.out (below1 _ _)) hb5
  have HB5 : Hid (Below w.heap.size w w5) := Below.then (Below.more HB4.out _) hb5
  have HV5 : Hid (Vs w5) := HV.out.later HB5.out
  have x0 : ∀ o, (w5.alloc o).cell? ⟨w4.heap.size, 0, none⟩ = some (.int .i64 X) := fun o => (two_cells (blk_later HX5.out (below1 _ o))).1
  have x1 : ∀ o, (w5.alloc o).cell? ⟨w4.heap.size, 1, none⟩ = some (.int .i64 Y) := fun o => (two_cells (blk_later HX5.out (below1 _ o))).2.1
  clear hb5
  go_wp2_with fail
  go_ret
  exact ⟨rfl, Below.more HB5.out _⟩
theorem walk (b s : Int) (text : ByteArray) (hs : text.size ≤ 140737488351232) (w : World) (hv : Vs w) :
    Calls Tryd.prog 3 #[.agg #[.int .i64 b, .int .i64 s], .string text] w fun e w' => e = .returned (.bool true) ∧ Below w.heap.size w w' := by
  have rPy : ∀ x y, Gd x y → ∀ w0, Vs w0 → Calls Tryd.prog 8 #[.string (tt x y)] w0 fun e w' => e = .returned (.tuple #[.agg #[.int .i64 x, .int .i64 y], .int .i64 0]) ∧ Below w0.heap.size w0 w' := fun x y h w0 hv0 => by
    obtain ⟨x', rfl⟩ : ∃ x' : Nat, x = (x' : Int) := ⟨x.toNat, by have := h.1; omega⟩
    obtain ⟨y', rfl⟩ : ∃ y' : Nat, y = (y' : Int) := ⟨y.toNat, by have := h.2.2.1; omega⟩
    exact rParse_yes x' y' h w0 hv0
  have tne : Gd b s → tt b s ≠ ⟨#[]⟩ := fun h => by
    obtain ⟨x', rfl⟩ : ∃ x' : Nat, b = (x' : Int) := ⟨b.toNat, by have := h.1; omega⟩
    obtain ⟨y', rfl⟩ : ∃ y' : Nat, s = (y' : Int) := ⟨s.toNat, by have := h.2.2.1; omega⟩
    exact tt_ne x' y'
  by_cases hg : Gd b s
  · by_cases ht : ∃ x y, Gd x y ∧ tt x y = text
    · obtain ⟨x, y, hxy, rfl⟩ := ht
      exact walk_yy b s x y (tt b s) (tt x y) w hv (tne hg) (text_yes b s hg) (rText_yes b s hg) (parse_yes x y hxy) (rPy x y hxy) (text_yes x y hxy) (parse_yes b s hg)
    · have hn : ∀ x y, Gd x y → tt x y ≠ text := fun x y h e => ht ⟨x, y, h, e⟩
      exact walk_yn b s 0 0 (tt b s) text w hv (tne hg) (text_yes b s hg) (rText_yes b s hg) (parse_no text hs hn) (rParse_no text hs hn) (parse_yes b s hg)
  · by_cases ht : ∃ x y, Gd x y ∧ tt x y = text
    · obtain ⟨x, y, hxy, rfl⟩ := ht
      exact walk_ny b s x y (tt x y) w hv (fun w0 _ => text_no b s hg w0) (fun w0 _ => rText_no b s hg w0) (parse_yes x y hxy) (rPy x y hxy) (text_yes x y hxy)
    · have hn : ∀ x y, Gd x y → tt x y ≠ text := fun x y h e => ht ⟨x, y, h, e⟩
      exact walk_nn b s 0 0 text w hv (fun w0 _ => text_no b s hg w0) (fun w0 _ => rText_no b s hg w0) (parse_no text hs hn) (rParse_no text hs hn)
end Go.Proofs.YtpofjkjcbflloabDoor
