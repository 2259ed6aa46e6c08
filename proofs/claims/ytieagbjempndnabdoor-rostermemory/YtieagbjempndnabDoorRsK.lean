/- Contract: the fixed answers (lives); the library's table as the rows list it; a world that holds all that is listed. -/
import Derived.Test.YtieagbjempndnabDoorRows
import Derived.Test.YtieagbjempndnabDoorOpenRs
import Derived.Lib.LaidTab
import Derived.Stop.LaidErr
import Derived.Shelf.Vars
import Derived.OpenShut
namespace Go.Proofs.YtieagbjempndnabDoor
open Go.ChangeShapes Go.WideShapes Go.ChangeAt Go.RowKit
set_option linter.unusedVariables false
set_option linter.unusedSimpArgs false

theorem gTab : Tryd.prog.globalNamed "math/bits.deBruijn64tab" = some 0 := by kernel_rfl
theorem gTabType : (Tryd.prog.globals[0]?).map (·.type) = some 73 := by kernel_rfl
theorem cellsTab : Tryd.prog.cellsOf 73 = 64 := by kernel_rfl
theorem cellsU8 : Tryd.prog.cellsOf 5 = 1 := by kernel_rfl
def tabI : List Int := Lib.deBruijn64tab.map fun n : Nat => (n : Int)
theorem tab_data : (Rows.laid_math_bits_deBruijn64tab : DataW Unit) = Lib.tabData .u8 tabI := rfl
theorem tb_of {W : World} {rest : List (String × DataW Unit)} (h : laidMet Tryd.prog (("math/bits.deBruijn64tab", Rows.laid_math_bits_deBruijn64tab) :: rest) W) : Tb W := by
  rw [tab_data] at h
  have tab : Lib.TabIs Tryd.prog W "math/bits.deBruijn64tab" .u8 tabI :=
    Lib.tabIs_of_head gTab gTabType Tryd.underlying73 Tryd.underlying5 cellsU8 cellsTab h
  have hc : TabAt G64 Lib.deBruijn64tab W := fun j hj => by
    have h0 := World.var?_cell gTab tab j
    rw [show (⟨G64, j, none⟩ : Addr) = ⟨0, j, none⟩ from rfl, h0]
    simp only [tabI, List.map_map, List.getElem?_toArray, List.getElem?_map]
    rw [List.getElem?_eq_getElem hj, List.getD_eq_getElem?_getD, List.getElem?_eq_getElem hj]
    rfl
  exact ⟨World.block_lt_of_cell? W ⟨G64, 0, none⟩ (hc 0 (by decide)), hc⟩
def numbers (d : DataW Unit) : Array Value := match d with
  | .agg l => (l.map fun | .lit (.int k n) => Value.int k n | _ => .bool false).toArray
  | _ => #[]
noncomputable def laidWorld (os : Os) : World :=
  let w0 := World.holding Tryd.prog os ⟨#[], #[], []⟩
  { w0 with heap := w0.heap.modify 0 fun
      | .cells _ t frozen => .cells (numbers Rows.laid_math_bits_deBruijn64tab) t frozen
      | o => o }
theorem i64_wf {a : Int} (h : (Lit.int .i64 a).wf = true) : -9223372036854775808 ≤ a ∧ a < 9223372036854775808 := by
  have := bounds_i64 h
  omega
/- The roster of the examples. -/
def f0 : Nat → En := upd (upd (fun _ => zE) 0 ⟨1, 22, 1⟩) 2 ⟨3, 24, 1⟩
theorem live1 : mvE f0 [1] [5, 2] 4 40 = 0 := by decide +kernel
theorem live2 : (mvR f0 [1] [5, 2] 4 40 0).bas = 40 := by decide +kernel
theorem live3 : (mvR f0 [1] [5, 2] 4 40 1).who = 2 := by decide +kernel
theorem live4 : (mvR f0 [1] [5, 2] 4 40 1).bas = 41 := by decide +kernel
theorem live5 : (mvR f0 [1] [5, 2] 4 40 1).snc = 4 := by decide +kernel
theorem live6 : (mvR f0 [1] [5, 2] 4 40 2).who = 3 := by decide +kernel
theorem live7 : (mvR f0 [1] [5, 2] 4 40 2).bas = 24 := by decide +kernel
theorem live8 : (mvR f0 [1] [5, 2] 4 40 2).snc = 1 := by decide +kernel
theorem live9 : (mvL f0 [1] [5, 2] 4 40).length = 1 := by decide +kernel
theorem live10 : (mvJ f0 [1] [5, 2] 4 40).length = 2 := by decide +kernel
set_option maxRecDepth 100000 in
set_option maxHeartbeats 1000000 in
theorem lives_any (w : World) (hT : Tb w) : Calls Tryd.prog 4 #[] w fun e w' => e = .returned (.bool true) ∧ Below w.heap.size w w' := by
  go_enter Tryd.func4, Tryd.ntmps4
  go_upto_region 2 with (fail)
  rw [alloc_zero]
  have hR := RoAt.new w (fun _ => zE)
  have hB := alloc_ro w (fun _ => zE)
  generalize w.alloc (.cells (rcs fun _ => zE) 25) = w1 at *
  have hR1 : RoAt (((w1.setCell ⟨w.heap.size, 0, none⟩ (.int .i64 1)).setCell ⟨w.heap.size, 1, none⟩ (.int .i64 22)).setCell ⟨w.heap.size, 2, none⟩ (.int .i64 1)) w.heap.size (upd (fun _ => zE) 0 ⟨1, 22, 1⟩) := hR.set3 0 (by decide) 1 22 1
  have hB1 := set3_below hB (Nat.le_refl w.heap.size) 0 1 2 (.int .i64 1) (.int .i64 22) (.int .i64 1)
  obtain ⟨c0, c1, c2⟩ := hR.cells 0 (by decide)
  simp only [Nat.zero_mul, Nat.zero_add] at c0 c1 c2
  have z0 := row_frozen hR 0
  have z1 := row_frozen hR 1
  have z2 := row_frozen hR 2
  go_upto_region 3 with (fail)
  generalize ((w1.setCell ⟨w.heap.size, 0, none⟩ (.int .i64 1)).setCell ⟨w.heap.size, 1, none⟩ (.int .i64 22)).setCell ⟨w.heap.size, 2, none⟩ (.int .i64 1) = w2 at *
  clear hR hB c0 c1 c2 z0 z1 z2
  have hR2 : RoAt (((w2.setCell ⟨w.heap.size, 6, none⟩ (.int .i64 3)).setCell ⟨w.heap.size, 7, none⟩ (.int .i64 24)).setCell ⟨w.heap.size, 8, none⟩ (.int .i64 1)) w.heap.size f0 := hR1.set3 2 (by decide) 3 24 1
  have hB2 := set3_below hB1 (Nat.le_refl w.heap.size) 6 7 8 (.int .i64 3) (.int .i64 24) (.int .i64 1)
  obtain ⟨c0, c1, c2⟩ := hR1.cells 2 (by decide)
  simp only [Nat.reduceMul, Nat.reduceAdd] at c0 c1 c2
  have z0 := row_frozen hR1 6
  have z1 := row_frozen hR1 7
  have z2 := row_frozen hR1 8
  go_upto_region 4 with (fail)
  generalize ((w2.setCell ⟨w.heap.size, 6, none⟩ (.int .i64 3)).setCell ⟨w.heap.size, 7, none⟩ (.int .i64 24)).setCell ⟨w.heap.size, 8, none⟩ (.int .i64 1) = w3 at *
  clear hR1 hB1 c0 c1 c2 z0 z1 z2
  refine wp_region_lit ?_
  refine ld25 hR2 rfl _ rfl rfl ?_
  have b4 : Below w3.heap.size w3 ((w3.alloc (.cells #[.int .i64 1] 3)).alloc (.cells #[.int .i64 5, .int .i64 2] 3)) := ((Below.refl _ w3).alloc (Nat.le_refl _) _).alloc (by simp) _
  have hB4 := hB2.trans (b4.mono hB2.size)
  have hR4 := hR2.later b4
  have rL : RdI ((w3.alloc (.cells #[.int .i64 1] 3)).alloc (.cells #[.int .i64 5, .int .i64 2] 3)) (some ⟨w3.heap.size, 0, none⟩) [1] := fun i hi => by
    obtain rfl : i = 0 := by simp at hi; omega
    exact ⟨_, _, rfl, cell_alloc_lt (cell_of_row _ _ 0 _ _ _ (heap_alloc_last w3 _)) _⟩
  have rJ : RdI ((w3.alloc (.cells #[.int .i64 1] 3)).alloc (.cells #[.int .i64 5, .int .i64 2] 3)) (some ⟨w3.heap.size + 1, 0, none⟩) [5, 2] := fun i hi => by
    have hl := heap_alloc_last (w3.alloc (.cells #[.int .i64 1] 3)) (.cells #[.int .i64 5, .int .i64 2] 3)
    rw [World.size_alloc] at hl
    match i, hi with
    | 0, _ => exact ⟨_, _, rfl, cell_of_row _ _ 0 _ _ _ hl⟩
    | 1, _ => exact ⟨_, _, rfl, cell_of_row _ _ 1 _ _ _ hl⟩
  have hmv := move_any f0 (some ⟨w3.heap.size, 0, none⟩) (some ⟨w3.heap.size + 1, 0, none⟩) 1 2 [1] [5, 2] 4 40 _ (hT.later hB4) (by decide) (by decide) rL rJ
  clear rL rJ b4
  obtain ⟨cf, hc⟩ : ∃ cf, rcs f0 = cf := ⟨_, rfl⟩
  rw [hc] at hmv ⊢
  go_wp2_with fail
  refine hmv.mono ?_
  rintro e w5 ⟨⟨vl, vj, rfl, hP⟩, hb5⟩
  have hR5 := hR4.later hb5
  have hB5 := hB4.trans (hb5.mono hB4.size)
  have hl1 := hP.left
  have hj1 := hP.join
  rw [live9] at hl1
  rw [live10] at hj1
  obtain ⟨al, kl, rfl⟩ := owns_slice hl1
  obtain ⟨aj, kj, rfl⟩ := owns_slice hj1
  rw [live1]
  have HM2 : Hid ((mvR f0 [1] [5, 2] 4 40 0).bas = 40) := live2
  clear hmv hP hl1 hj1 hR4 hB4 hR2 hB2 hc
  obtain ⟨g, hg⟩ : ∃ g, mvR f0 [1] [5, 2] 4 40 = g := ⟨_, rfl⟩
  have e2 := live2
  have e3 := live3
  have e4 := live4
  have e5 := live5
  have e6 := live6
  have e7 := live7
  have e8 := live8
  rw [hg] at e2 e3 e4 e5 e6 e7 e8 ⊢
  clear hg HM2
  have hz6 : RoAt (w5.alloc (.cells zeroCells25 25)) w5.heap.size (fun _ => zE) := by rw [alloc_zero]; exact RoAt.new _ _
  go_upto_region 5 with (refine st25 (g := g) hz6 rfl _ _ rfl rfl rfl ?_)
  rw [alloc_zero, World.setRow_alloc_new]
  have hG := RoAt.new w5 g
  have hb6 := alloc_ro w5 g
  have hR6 := hR5.later hb6
  have hB6 := hB5.trans (hb6.mono hB5.size)
  generalize w5.alloc (.cells (rcs g) 25) = w6 at *
  obtain ⟨p0, p1, p2⟩ := hG.cells 0 (by decide)
  obtain ⟨q0, q1, q2⟩ := hG.cells 1 (by decide)
  obtain ⟨r0, r1, r2⟩ := hG.cells 2 (by decide)
  obtain ⟨s0, s1, s2⟩ := hR6.cells 2 (by decide)
  rw [e2] at p1
  rw [e3] at q0
  rw [e4] at q1
  rw [e5] at q2
  rw [e6] at r0
  rw [e7] at r1
  rw [e8] at r2
  rw [show (f0 2).who = 3 from rfl] at s0
  rw [show (f0 2).bas = 24 from rfl] at s1
  rw [show (f0 2).snc = 1 from rfl] at s2
  simp only [Nat.reduceMul, Nat.reduceAdd, Nat.zero_mul, Nat.zero_add, Nat.one_mul] at p0 p1 p2 q0 q1 q2 r0 r1 r2 s0 s1 s2
  clear hR5 hb5 hB5 hz6 hb6 hG hR6
  go_wp2_with fail
  go_ret
  exact ⟨rfl, hB6⟩
end Go.Proofs.YtieagbjempndnabDoor
