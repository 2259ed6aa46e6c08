/- The walk of RosterMemory. -/
import Derived.Test.YtieagbjempndnabDoorRsK
import Derived.Test.YtieagbjempndnabDoorOpenCa
import Derived.Test.YtieagbjempndnabDoorRsMm
import Derived.Deep.RegionHeld3
namespace Go.Proofs.YtieagbjempndnabDoor.rosterMemory
open Go.RowKit Go.Maps Go.Shelf
set_option linter.unusedVariables false
set_option linter.unusedSimpArgs false

theorem drew_below (w : World) : Below w.heap.size w w.drew := ⟨rfl, rfl, rfl, Nat.le_refl _, fun _ _ => rfl⟩
def Gv (W : World) (B ga gb nL nJ ca cb : Nat) : Prop := W.heap[B]? = some (.cells #[.slice (some ⟨ga, 0, none⟩) nL ca, .slice (some ⟨gb, 0, none⟩) nJ cb] 28 (0, 0))
theorem Gv.cells {W : World} {B ga gb nL nJ ca cb : Nat} (h : Gv W B ga gb nL nJ ca cb) : W.cell? ⟨B, 0, none⟩ = some (.slice (some ⟨ga, 0, none⟩) nL ca) ∧ W.cell? ⟨B, 1, none⟩ = some (.slice (some ⟨gb, 0, none⟩) nJ cb) := ⟨cell_of_row W B 0 _ _ _ h, cell_of_row W B 1 _ _ _ h⟩
theorem Gv.lt {W : World} {B ga gb nL nJ ca cb : Nat} (h : Gv W B ga gb nL nJ ca cb) : B < W.heap.size := (Array.getElem?_eq_some_iff.1 h).1
theorem Gv.later {W W' : World} {B ga gb nL nJ ca cb : Nat} (h : Gv W B ga gb nL nJ ca cb) (hb : Below W.heap.size W W') : Gv W' B ga gb nL nJ ca cb := (hb.block B h.lt).trans h
def Pd (vl vj : Value) (ga gb : Nat) (k : Nat) : Prop := vl.ownBlock = some k ∨ vj.ownBlock = some k ∨ k = ga ∨ k = gb
set_option maxRecDepth 100000 in
set_option maxHeartbeats 4000000 in
theorem walk (f : Nat → En) (aL aJ : Option Addr) (cL cJ : Nat) (L J : List Int) (sc bs : Int) (w : World) (wf : ∀ i, i < 64 → (Lit.int .i64 (f i).who).wf = true ∧ (Lit.int .i64 (f i).bas).wf = true ∧ (Lit.int .i64 (f i).snc).wf = true) (rL : RdI w aL L) (rJ : RdI w aJ J) (lL : L.length * 8 ≤ 140737488351232) (lJ : J.length * 8 ≤ 140737488351232) (ws : (Lit.int .i64 sc).wf = true) (wb : (Lit.int .i64 bs).wf = true) (hT : Tb w) :
    Calls Tryd.prog 3 #[.agg (ccs f aL aJ L.length J.length cL cJ sc bs)] w fun e w' => e = .returned (.bool true) ∧ Below w.heap.size w w' := by
  have hC := CaAt.new w f aL aJ L.length J.length cL cJ sc bs
  have hB : Below w.heap.size w (w.alloc (.cells (ccs f aL aJ L.length J.length cL cJ sc bs) 30)) := (Below.refl _ w).alloc (Nat.le_refl _) _
  obtain ⟨i0, hi, hz0, hz1, hz2⟩ := info_parts infoInt
  clear wf ws wb
  go_enter Tryd.func3, Tryd.ntmps3
  go_upto_region 1 with (fail)
  generalize w.alloc (.cells (ccs f aL aJ L.length J.length cL cJ sc bs) 30) = w1 at *
  obtain ⟨cc, hcc⟩ : ∃ cc, ccs f aL aJ L.length J.length cL cJ sc bs = cc := ⟨_, rfl⟩
  rw [hcc]
  clear hcc
  go_wp2_with fail
  refine (lives_any _ (hT.later hB)).mono ?_
  rintro e w2 ⟨rfl, hb2⟩
  have hC2 := hC.later hb2
  have hB2 := hB.trans (hb2.mono hB.size)
  clear hC hB hb2
  have hC := hC2
  go_upto_region 3 with (fail)
  have HE0 : Hid ((w2.alloc (.cells #[] 3)).ownsRow w2.heap.size 3 1 (.slice (some ⟨w2.heap.size, 0, none⟩) 0 0) 0 []) :=
    ⟨rfl, Or.inr ⟨w2.heap.size, 0, #[], rfl, Nat.le_refl _, heap_alloc_last w2 _, Nat.le_refl _, Nat.zero_le _, rfl, rfl⟩⟩
  have HA0 : Hid (Below w2.heap.size w2 (w2.alloc (.cells #[] 3))) := (Below.refl _ w2).alloc (Nat.le_refl _) _
  have HS0 : Hid (RdI (w2.alloc (.cells #[] 3)) aL L) := (rL.later hB2).later HA0.out
  obtain ⟨x0, x1, x2, x3⟩ := (hC.later HA0.out).cells
  go_upto_region 4 with (first
    | (at_builtin; refine append_rd rfl _ _ rfl w2.heap.size (.slice (some ⟨w2.heap.size, 0, none⟩) 0 0) 0 [] rfl HE0.out aL cL L rfl HS0.out (by unfold maxLen; omega) (by omega) (by simp) ?_; intro v2 wA hown2 hgrow2; rw [Nat.zero_add, List.nil_append] at hown2; obtain ⟨a2, cap2, rfl⟩ := row_slice hown2; have HO2 : Hid (wA.ownsRow w2.heap.size 3 1 (.slice a2 L.length cap2) L.length (i64s L)) := hown2; have HG2 : Hid (Below w2.heap.size w2 wA) := below_grown HA0.out (show (w2.alloc (.cells #[] 3)).grownBy wA (some w2.heap.size) from hgrow2) (by simp) (fun j hj => by cases hj; exact Nat.le_refl _); clear hown2 hgrow2)
    | (at_builtin; (refine wpList_append_own (w := _) rfl _ _ 26 rfl w2.heap.size 3 i0 _ 1 8 Tryd.underlying26 hi hz0 hz1 hz2 rfl (by decide) (.slice a2 L.length cap2) L.length (i64s L) rfl (HO2.out.alloc _) ⟨wA.heap.size, 0, none⟩ 1 1 [.int .i64 (-71)] rfl rfl (cell_one_new _ _ _) (by simp [Value.oneCell']) (by unfold maxLen; omega) (by omega) (by have := HG2.out.size; rw [World.size_alloc]; omega) ?_); intro v3 w3 hown3 hgrow3 hq3; obtain ⟨ga, ca, rfl⟩ := ownsRow_succ hown3; have HOA : Hid (w3.ownsRow w2.heap.size 3 1 (.slice (some ⟨ga, 0, none⟩) (L.length + 1) ca) (L.length + 1) (i64s L ++ [.int .i64 (-71)])) := hown3; have HBA : Hid (Below w2.heap.size w2 w3) := HG2.out.trans (row_grown HO2.out HG2.out.size hgrow3); clear hown3 hgrow3))
  clear x0 x1 x2 x3 HE0 HA0 HS0 HO2 HG2
  have hC3 := hC.later HBA.out
  have hB3 := hB2.trans (HBA.out.mono hB2.size)
  have hlo : w.heap.size ≤ w2.heap.size := hB2.size
  have HWA : Hid (w.heap.size ≤ ga) := Nat.le_trans hlo (row_cap HOA.out).2.1
  clear hC hC2 HBA hB2 hlo
  have hC := hC3
  clear hC3
  have HE0 : Hid ((w3.alloc (.cells #[] 3)).ownsRow w3.heap.size 3 1 (.slice (some ⟨w3.heap.size, 0, none⟩) 0 0) 0 []) :=
    ⟨rfl, Or.inr ⟨w3.heap.size, 0, #[], rfl, Nat.le_refl _, heap_alloc_last w3 _, Nat.le_refl _, Nat.zero_le _, rfl, rfl⟩⟩
  have HA0 : Hid (Below w3.heap.size w3 (w3.alloc (.cells #[] 3))) := (Below.refl _ w3).alloc (Nat.le_refl _) _
  have HS0 : Hid (RdI (w3.alloc (.cells #[] 3)) aJ J) := (rJ.later hB3).later HA0.out
  obtain ⟨x0, x1, x2, x3⟩ := (hC.later HA0.out).cells
  go_upto_region 5 with (first
    | (at_builtin; refine append_rd rfl _ _ rfl w3.heap.size (.slice (some ⟨w3.heap.size, 0, none⟩) 0 0) 0 [] rfl HE0.out aJ cJ J rfl HS0.out (by unfold maxLen; omega) (by omega) (by simp) ?_; intro v2 wA hown2 hgrow2; rw [Nat.zero_add, List.nil_append] at hown2; obtain ⟨a2, cap2, rfl⟩ := row_slice hown2; have HO2 : Hid (wA.ownsRow w3.heap.size 3 1 (.slice a2 J.length cap2) J.length (i64s J)) := hown2; have HG2 : Hid (Below w3.heap.size w3 wA) := below_grown HA0.out (show (w3.alloc (.cells #[] 3)).grownBy wA (some w3.heap.size) from hgrow2) (by simp) (fun j hj => by cases hj; exact Nat.le_refl _); clear hown2 hgrow2)
    | (at_builtin; (refine wpList_append_own (w := _) rfl _ _ 26 rfl w3.heap.size 3 i0 _ 1 8 Tryd.underlying26 hi hz0 hz1 hz2 rfl (by decide) (.slice a2 J.length cap2) J.length (i64s J) rfl (HO2.out.alloc _) ⟨wA.heap.size, 0, none⟩ 1 1 [.int .i64 (-72)] rfl rfl (cell_one_new _ _ _) (by simp [Value.oneCell']) (by unfold maxLen; omega) (by omega) (by have := HG2.out.size; rw [World.size_alloc]; omega) ?_); intro v3 w4 hown3 hgrow3 hq3; obtain ⟨gb, cb, rfl⟩ := ownsRow_succ hown3; have HOB : Hid (w4.ownsRow w3.heap.size 3 1 (.slice (some ⟨gb, 0, none⟩) (J.length + 1) cb) (J.length + 1) (i64s J ++ [.int .i64 (-72)])) := hown3; have HBB : Hid (Below w3.heap.size w3 w4) := HG2.out.trans (row_grown HO2.out HG2.out.size hgrow3); clear hown3 hgrow3))
  clear x0 x1 x2 x3 HE0 HA0 HS0 HO2 HG2
  have hC4 := hC.later HBB.out
  have hB4 := hB3.trans (HBB.out.mono hB3.size)
  have HWB : Hid (w.heap.size ≤ gb) := Nat.le_trans hB3.size (row_cap HOB.out).2.1
  have HOA4 : Hid (w4.ownsRow w2.heap.size 3 1 (.slice (some ⟨ga, 0, none⟩) (L.length + 1) ca) (L.length + 1) (i64s L ++ [.int .i64 (-71)])) := owns_later HOA.out HBB.out
  have k1 : L.length ≤ ca := by have := (row_cap HOA.out).1; omega
  have k2 : (L.length : Int) ≤ (ca : Int) := by omega
  have k3 : J.length ≤ cb := by have := (row_cap HOB.out).1; omega
  have k4 : (J.length : Int) ≤ (cb : Int) := by omega
  clear hC HBB HOA hB3
  have hDr : ∀ o, Below w4.heap.size w4 (w4.alloc o).drew := fun o => ((Below.refl _ w4).alloc (Nat.le_refl _) o).trans ((drew_below (w4.alloc o)).mono (by simp))
  have hS0 := hC4.later (drew_below w4)
  refine wp_region_held_drew (S := fun W => CaAt W w.heap.size f aL aJ L.length J.length cL cJ sc bs) (by kernel_rfl) hS0 (fun hH0 => ?_)
  refine wpAnyH_take (i := 0) (oi := { dst := some 38, op := Op.move (Operand.tmp 3), type := _, pos := _, after := _, guard := none }) (v := .slice (some ⟨ga, 0, none⟩) (L.length + 1) ca) rfl (by kernel_rfl) (by kernel_rfl) (by kernel_rfl) (fun _ _ _ h => h) (Or.inl ⟨by rfl, fun w hSw => by (try dsimp only at hSw); go_simp⟩) (by assumption) ?_
  simp only [Act.put, List.setIfInBounds_toArray, List.set_cons_zero, List.set_cons_succ]
  refine wpAnyH_take (i := 1) (oi := { dst := some 39, op := Op.fieldAddr 30 (Operand.tmp 1) 1, type := _, pos := _, after := _, guard := none }) (v := .pointer (some ⟨w.heap.size, 192, none⟩)) rfl (by kernel_rfl) (by kernel_rfl) (by kernel_rfl) (fun _ _ _ h => h) (Or.inl ⟨by rfl, fun w hSw => by (try dsimp only at hSw); go_simp⟩) (by assumption) ?_
  simp only [Act.put, List.setIfInBounds_toArray, List.set_cons_zero, List.set_cons_succ]
  refine wpAnyH_take (i := 2) (oi := { dst := some 40, op := Op.fieldAddr 28 (Operand.tmp 39) 0, type := _, pos := _, after := _, guard := none }) (v := .pointer (some ⟨w.heap.size, 192, none⟩)) rfl (by kernel_rfl) (by kernel_rfl) (by kernel_rfl) (fun _ _ _ h => h) (Or.inl ⟨by rfl, fun w hSw => by (try dsimp only at hSw); go_simp⟩) (by assumption) ?_
  simp only [Act.put, List.setIfInBounds_toArray, List.set_cons_zero, List.set_cons_succ]
  refine wpAnyH_take (i := 3) (oi := { dst := some 41, op := Op.load 26 (Operand.tmp 40), type := _, pos := _, after := _, guard := none }) (v := .slice aL L.length cL) rfl (by kernel_rfl) (by kernel_rfl) (by kernel_rfl) (fun _ _ _ h => h) (Or.inl ⟨by rfl, fun w hSw => by obtain ⟨x0, x1, x2, x3⟩ := CaAt.cells hSw; clear hSw; go_simp⟩) (by assumption) ?_
  simp only [Act.put, List.setIfInBounds_toArray, List.set_cons_zero, List.set_cons_succ]
  refine wpAnyH_take (i := 4) (oi := { dst := some 42, op := Op.call { callee := Callee.builtin Builtin.len, args := #[(Operand.tmp 41)], argTypes := #[26] }, type := _, pos := _, after := _, guard := none }) (v := .int .i64 (L.length : Int)) rfl (by kernel_rfl) (by kernel_rfl) (by kernel_rfl) (fun _ _ _ h => h) (Or.inl ⟨by rfl, fun w hSw => by (try dsimp only at hSw); go_simp⟩) (by assumption) ?_
  simp only [Act.put, List.setIfInBounds_toArray, List.set_cons_zero, List.set_cons_succ]
  refine wpAnyH_take (i := 5) (oi := { dst := some 43, op := Op.slice 26 (Operand.tmp 38) none (some (Operand.tmp 42)) none, type := _, pos := _, after := _, guard := none }) (v := .slice (some ⟨ga, 0, none⟩) L.length ca) rfl (by kernel_rfl) (by kernel_rfl) (by kernel_rfl) (fun _ _ _ h => h) (Or.inl ⟨by rfl, fun w hSw => by (try dsimp only at hSw); go_simp⟩) (by assumption) ?_
  simp only [Act.put, List.setIfInBounds_toArray, List.set_cons_zero, List.set_cons_succ]
  refine wpAnyH_take (i := 6) (oi := { dst := some 44, op := Op.move (Operand.tmp 4), type := _, pos := _, after := _, guard := none }) (v := .slice (some ⟨gb, 0, none⟩) (J.length + 1) cb) rfl (by kernel_rfl) (by kernel_rfl) (by kernel_rfl) (fun _ _ _ h => h) (Or.inl ⟨by rfl, fun w hSw => by (try dsimp only at hSw); go_simp⟩) (by assumption) ?_
  simp only [Act.put, List.setIfInBounds_toArray, List.set_cons_zero, List.set_cons_succ]
  refine wpAnyH_take (i := 7) (oi := { dst := some 45, op := Op.fieldAddr 30 (Operand.tmp 1) 1, type := _, pos := _, after := _, guard := none }) (v := .pointer (some ⟨w.heap.size, 192, none⟩)) rfl (by kernel_rfl) (by kernel_rfl) (by kernel_rfl) (fun _ _ _ h => h) (Or.inl ⟨by rfl, fun w hSw => by (try dsimp only at hSw); go_simp⟩) (by assumption) ?_
  simp only [Act.put, List.setIfInBounds_toArray, List.set_cons_zero, List.set_cons_succ]
  refine wpAnyH_take (i := 8) (oi := { dst := some 46, op := Op.fieldAddr 28 (Operand.tmp 45) 1, type := _, pos := _, after := _, guard := none }) (v := .pointer (some ⟨w.heap.size, 193, none⟩)) rfl (by kernel_rfl) (by kernel_rfl) (by kernel_rfl) (fun _ _ _ h => h) (Or.inl ⟨by rfl, fun w hSw => by (try dsimp only at hSw); go_simp⟩) (by assumption) ?_
  simp only [Act.put, List.setIfInBounds_toArray, List.set_cons_zero, List.set_cons_succ]
  refine wpAnyH_take (i := 9) (oi := { dst := some 47, op := Op.load 26 (Operand.tmp 46), type := _, pos := _, after := _, guard := none }) (v := .slice aJ J.length cJ) rfl (by kernel_rfl) (by kernel_rfl) (by kernel_rfl) (fun _ _ _ h => h) (Or.inl ⟨by rfl, fun w hSw => by obtain ⟨x0, x1, x2, x3⟩ := CaAt.cells hSw; clear hSw; go_simp⟩) (by assumption) ?_
  simp only [Act.put, List.setIfInBounds_toArray, List.set_cons_zero, List.set_cons_succ]
  refine wpAnyH_take (i := 10) (oi := { dst := some 48, op := Op.call { callee := Callee.builtin Builtin.len, args := #[(Operand.tmp 47)], argTypes := #[26] }, type := _, pos := _, after := _, guard := none }) (v := .int .i64 (J.length : Int)) rfl (by kernel_rfl) (by kernel_rfl) (by kernel_rfl) (fun _ _ _ h => h) (Or.inl ⟨by rfl, fun w hSw => by (try dsimp only at hSw); go_simp⟩) (by assumption) ?_
  simp only [Act.put, List.setIfInBounds_toArray, List.set_cons_zero, List.set_cons_succ]
  refine wpAnyH_take (i := 11) (oi := { dst := some 49, op := Op.slice 26 (Operand.tmp 44) none (some (Operand.tmp 48)) none, type := _, pos := _, after := _, guard := none }) (v := .slice (some ⟨gb, 0, none⟩) J.length cb) rfl (by kernel_rfl) (by kernel_rfl) (by kernel_rfl) (fun _ _ _ h => h) (Or.inl ⟨by rfl, fun w hSw => by (try dsimp only at hSw); go_simp⟩) (by assumption) ?_
  simp only [Act.put, List.setIfInBounds_toArray, List.set_cons_zero, List.set_cons_succ]
  refine wpAnyH_take (i := 12) (oi := { dst := some 50, op := Op.build 28 #[(0, (Operand.tmp 43)), (1, (Operand.tmp 49))], type := _, pos := _, after := _, guard := none }) (v := .agg #[.slice (some ⟨ga, 0, none⟩) L.length ca, .slice (some ⟨gb, 0, none⟩) J.length cb]) rfl (by kernel_rfl) (by kernel_rfl) (by kernel_rfl) (fun _ _ _ h => h) (Or.inl ⟨by rfl, fun w hSw => by (try dsimp only at hSw); go_simp⟩) (by assumption) ?_
  simp only [Act.put, List.setIfInBounds_toArray, List.set_cons_zero, List.set_cons_succ]
  refine wpAnyH_ready (rs := [13]) (by kernel_rfl) (by simp) ?_
  refine AllReadyH.cons rfl (fun K hK => ?_) AllReadyH.nil
  go_simp
  refine hK.out _ _ (hH0.later ((Below.refl _ _).alloc (Nat.le_refl _) _)) (fun hH1 => ?_)
  clear hK K
  try simp only [Act.put, List.setIfInBounds_toArray, List.set_cons_zero, List.set_cons_succ]
  refine wpAnyH_ready (rs := [14]) (by kernel_rfl) (by simp) ?_
  refine AllReadyH.cons rfl (fun K hK => ?_) AllReadyH.nil
  go_simp
  refine hK.out _ _ (hC4.later (hDr _)) (fun hH2 => ?_)
  clear hK K
  try simp only [Act.put, List.setIfInBounds_toArray, List.set_cons_zero, List.set_cons_succ]
  refine wpAnyH_done (by kernel_rfl) ?_ _
  have hb5 := hDr (.cells #[.slice (some ⟨ga, 0, none⟩) L.length ca, .slice (some ⟨gb, 0, none⟩) J.length cb] 28)
  have hG5 : Gv ((w4.alloc (.cells #[.slice (some ⟨ga, 0, none⟩) L.length ca, .slice (some ⟨gb, 0, none⟩) J.length cb] 28)).drew) w4.heap.size ga gb L.length J.length ca cb := heap_alloc_last w4 _
  have hC5 := hC4.later hb5
  have hB5 := hB4.trans (hb5.mono hB4.size)
  have HOA5 := owns_later HOA4.out hb5
  have HOB5 := owns_later HOB.out hb5
  generalize (w4.alloc (.cells #[.slice (some ⟨ga, 0, none⟩) L.length ca, .slice (some ⟨gb, 0, none⟩) J.length cb] 28)).drew = w5 at *
  generalize w4.heap.size = Bg at *
  generalize w2.heap.size = sA at *
  generalize w3.heap.size = sB at *
  have HA : Hid (w5.ownsRow sA 3 1 (.slice (some ⟨ga, 0, none⟩) (L.length + 1) ca) (L.length + 1) (i64s L ++ [.int .i64 (-71)])) := HOA5
  have HB : Hid (w5.ownsRow sB 3 1 (.slice (some ⟨gb, 0, none⟩) (J.length + 1) cb) (J.length + 1) (i64s J ++ [.int .i64 (-72)])) := HOB5
  clear hDr hb5 hC4 hB4 HOA4 HOB HOA5 HOB5 hH0 hH1 hH2 hS0 k1 k2 k3 k4
  obtain ⟨x0, x1, x2, x3⟩ := hC5.cells
  have hm := rMove_any f aL aJ cL cJ L J sc bs w5 (by omega) (by omega) (rL.later hB5) (rJ.later hB5)
  go_wp2_with (refine ld25c hC5 rfl _ rfl rfl ?_)
  refine hm.mono ?_
  rintro e w6 ⟨⟨vx, vy, rfl, hX⟩, hb6⟩
  have hz6 : RoAt (w6.alloc (.cells zeroCells25 25)) w6.heap.size (fun _ => zE) := by rw [alloc_zero]; exact RoAt.new _ _
  obtain ⟨g, hg⟩ : ∃ g, mvR f L J sc bs = g := ⟨_, rfl⟩
  obtain ⟨E, hE⟩ : ∃ E, mvE f L J sc bs = E := ⟨_, rfl⟩
  rw [hg, hE]
  clear x0 x1 x2 x3 hm
  go_upto_region 7 with (refine st25 (g := g) hz6 rfl _ _ rfl rfl rfl ?_)
  rw [alloc_zero, World.setRow_alloc_new]
  have hb7' := alloc_ro w6 g
  have hb7 := hb6.trans (hb7'.mono hb6.size)
  have hC7 := hC5.later hb7
  have hG7 := hG5.later hb7
  have hB7 := hB5.trans (hb7.mono hB5.size)
  have HA7 : Hid ((w6.alloc (.cells (rcs g) 25)).ownsRow sA 3 1 (.slice (some ⟨ga, 0, none⟩) (L.length + 1) ca) (L.length + 1) (i64s L ++ [.int .i64 (-71)])) := owns_later HA.out hb7
  have HB7 : Hid ((w6.alloc (.cells (rcs g) 25)).ownsRow sB 3 1 (.slice (some ⟨gb, 0, none⟩) (J.length + 1) cb) (J.length + 1) (i64s J ++ [.int .i64 (-72)])) := owns_later HB.out hb7
  have HX7 : Hid ((w6.alloc (.cells (rcs g) 25)).ownsRow w5.heap.size 38 2 vx (mvL f L J sc bs).length (ps (mvL f L J sc bs))) := owns_later hX.left hb7'
  have HY7 : Hid ((w6.alloc (.cells (rcs g) 25)).ownsRow w5.heap.size 38 2 vy (mvJ f L J sc bs).length (ps (mvJ f L J sc bs))) := owns_later hX.join hb7'
  generalize w6.alloc (.cells (rcs g) 25) = w7 at *
  generalize w6.heap.size = B6 at *
  clear hb6 hb7 hb7' hC5 hG5 hB5 HA HB hX hz6
  obtain ⟨x0, x1, x2, x3⟩ := hC7.cells
  obtain ⟨y0, y1⟩ := hG7.cells
  have hm := move_any f (some ⟨ga, 0, none⟩) (some ⟨gb, 0, none⟩) ca cb L J sc bs w7 (hT.later hB7) (by omega) (by omega) (rdi_of_row HA7.out) (rdi_of_row HB7.out)
  go_wp2_with (refine ld25c hC7 rfl _ rfl rfl ?_)
  refine hm.mono ?_
  rintro e w8 ⟨⟨vl, vj, rfl, hP⟩, hb8⟩
  have hz8 : RoAt (w8.alloc (.cells zeroCells25 25)) w8.heap.size (fun _ => zE) := by rw [alloc_zero]; exact RoAt.new _ _
  rw [hg, hE]
  clear x0 x1 x2 x3 y0 y1 hm
  go_upto_region 8 with (refine st25 (g := g) hz8 rfl _ _ rfl rfl rfl ?_)
  rw [alloc_zero, World.setRow_alloc_new]
  have hb9' := alloc_ro w8 g
  have hb9 := hb8.trans (hb9'.mono hb8.size)
  have hC9 := hC7.later hb9
  have hG9 := hG7.later hb9
  have hB9 := hB7.trans (hb9.mono hB7.size)
  have HV1 : Hid (w7.heap.size ≤ (w8.alloc (.cells (rcs g) 25)).heap.size) := hb9.size
  have HA9 : Hid ((w8.alloc (.cells (rcs g) 25)).ownsRow sA 3 1 (.slice (some ⟨ga, 0, none⟩) (L.length + 1) ca) (L.length + 1) (i64s L ++ [.int .i64 (-71)])) := owns_later HA7.out hb9
  have HB9 : Hid ((w8.alloc (.cells (rcs g) 25)).ownsRow sB 3 1 (.slice (some ⟨gb, 0, none⟩) (J.length + 1) cb) (J.length + 1) (i64s J ++ [.int .i64 (-72)])) := owns_later HB7.out hb9
  have HX9 : Hid ((w8.alloc (.cells (rcs g) 25)).ownsRow w5.heap.size 38 2 vx (mvL f L J sc bs).length (ps (mvL f L J sc bs))) := owns_later HX7.out hb9
  have HY9 : Hid ((w8.alloc (.cells (rcs g) 25)).ownsRow w5.heap.size 38 2 vy (mvJ f L J sc bs).length (ps (mvJ f L J sc bs))) := owns_later HY7.out hb9
  have HL9 : Hid ((w8.alloc (.cells (rcs g) 25)).ownsRow w7.heap.size 38 2 vl (mvL f L J sc bs).length (ps (mvL f L J sc bs))) := owns_later hP.left hb9'
  have HJ9 : Hid ((w8.alloc (.cells (rcs g) 25)).ownsRow w7.heap.size 38 2 vj (mvJ f L J sc bs).length (ps (mvJ f L J sc bs))) := owns_later hP.join hb9'
  have HAP : Hid (vl.ownBlock = none ∨ vl.ownBlock ≠ vj.ownBlock) := hP.apart
  -- blocks of x, y lie below w7, those of l, j from w7 on
  have HNX : Hid (∀ k, vx.ownBlock = some k → k < w7.heap.size) := fun k hk => (own_ge HX7.out hk).2
  have HNY : Hid (∀ k, vy.ownBlock = some k → k < w7.heap.size) := fun k hk => (own_ge HY7.out hk).2
  generalize w8.alloc (.cells (rcs g) 25) = w9 at *
  generalize w8.heap.size = B8 at *
  clear hb8 hb9 hb9' hC7 hG7 HA7 HB7 hP hz8 HX7 HY7
  obtain ⟨x0, x1, x2, x3⟩ := hC9.cells
  obtain ⟨y0, y1⟩ := hG9.cells
  have hm := move_any f (some ⟨ga, 0, none⟩) (some ⟨gb, 0, none⟩) ca cb L J sc bs w9 (hT.later hB9) (by omega) (by omega) (rdi_of_row HA9.out) (rdi_of_row HB9.out)
  go_wp2_with (refine ld25c hC9 rfl _ rfl rfl ?_)
  refine hm.mono ?_
  rintro e w10 ⟨⟨vm, vk, rfl, hP⟩, hb10⟩
  have hz10 : RoAt (w10.alloc (.cells zeroCells25 25)) w10.heap.size (fun _ => zE) := by rw [alloc_zero]; exact RoAt.new _ _
  rw [hg, hE]
  clear x0 x1 x2 x3 y0 y1 hm
  go_upto_region 9 with (refine st25 (g := g) hz10 rfl _ _ rfl rfl rfl ?_)
  rw [alloc_zero, World.setRow_alloc_new]
  have hb11' := alloc_ro w10 g
  have hb11 := hb10.trans (hb11'.mono hb10.size)
  have hC11 := hC9.later hb11
  have hG11 := hG9.later hb11
  have hB11 := hB9.trans (hb11.mono hB9.size)
  have HV2 : Hid (w9.heap.size ≤ (w10.alloc (.cells (rcs g) 25)).heap.size) := hb11.size
  have HA11 : Hid ((w10.alloc (.cells (rcs g) 25)).ownsRow sA 3 1 (.slice (some ⟨ga, 0, none⟩) (L.length + 1) ca) (L.length + 1) (i64s L ++ [.int .i64 (-71)])) := owns_later HA9.out hb11
  have HB11 : Hid ((w10.alloc (.cells (rcs g) 25)).ownsRow sB 3 1 (.slice (some ⟨gb, 0, none⟩) (J.length + 1) cb) (J.length + 1) (i64s J ++ [.int .i64 (-72)])) := owns_later HB9.out hb11
  have HX11 : Hid ((w10.alloc (.cells (rcs g) 25)).ownsRow w5.heap.size 38 2 vx (mvL f L J sc bs).length (ps (mvL f L J sc bs))) := owns_later HX9.out hb11
  have HY11 : Hid ((w10.alloc (.cells (rcs g) 25)).ownsRow w5.heap.size 38 2 vy (mvJ f L J sc bs).length (ps (mvJ f L J sc bs))) := owns_later HY9.out hb11
  have HL11 : Hid ((w10.alloc (.cells (rcs g) 25)).ownsRow w7.heap.size 38 2 vl (mvL f L J sc bs).length (ps (mvL f L J sc bs))) := owns_later HL9.out hb11
  have HJ11 : Hid ((w10.alloc (.cells (rcs g) 25)).ownsRow w7.heap.size 38 2 vj (mvJ f L J sc bs).length (ps (mvJ f L J sc bs))) := owns_later HJ9.out hb11
  have HM11 : Hid ((w10.alloc (.cells (rcs g) 25)).ownsRow w9.heap.size 38 2 vm (mvL f L J sc bs).length (ps (mvL f L J sc bs))) := owns_later hP.left hb11'
  have HK11 : Hid ((w10.alloc (.cells (rcs g) 25)).ownsRow w9.heap.size 38 2 vk (mvJ f L J sc bs).length (ps (mvJ f L J sc bs))) := owns_later hP.join hb11'
  have HNL : Hid (∀ k, vl.ownBlock = some k → w7.heap.size ≤ k ∧ k < w9.heap.size) := fun k hk => own_ge HL9.out hk
  have HNJ : Hid (∀ k, vj.ownBlock = some k → w7.heap.size ≤ k ∧ k < w9.heap.size) := fun k hk => own_ge HJ9.out hk
  have HWS : Hid (w.heap.size ≤ w7.heap.size) := hB7.size
  generalize w10.alloc (.cells (rcs g) 25) = w11 at *
  generalize w10.heap.size = B10 at *
  clear hb10 hb11 hb11' hC9 hG9 HA9 HB9 hP hz10 HX9 HY9 HL9 HJ9 hB9 hB7
  obtain ⟨x0, x1, x2, x3⟩ := hC11.cells
  obtain ⟨y0, y1⟩ := hG11.cells
  have hs1 := same_any (some ⟨ga, 0, none⟩) aL ca cL L w11 (by omega) (rdi_of_row HA11.out) (rL.later hB11)
  go_wp2_with fail
  refine hs1.mono ?_
  rintro e w12 ⟨rfl, hb12⟩
  clear x0 x1 x2 x3 y0 y1 hs1
  obtain ⟨x0, x1, x2, x3⟩ := (hC11.later hb12).cells
  obtain ⟨y0, y1⟩ := (hG11.later hb12).cells
  have hs2 := same_any (some ⟨gb, 0, none⟩) aJ cb cJ J w12 (by omega) (rdi_of_row (owns_later HB11.out hb12)) ((rJ.later hB11).later hb12)
  go_wp2_with fail
  refine hs2.mono ?_
  rintro e w13 ⟨rfl, hb13⟩
  clear x0 x1 x2 x3 y0 y1 hs2
  have hb14 := hb12.trans (hb13.mono hb12.size)
  have hcA : w13.cell? ⟨ga, L.length, none⟩ = some (.int .i64 (-71)) := by
    have h1 := (owns_later HA11.out hb14).cellAt L.length (by omega)
    rw [List.getElem?_append_right (by simp), i64s_length, Nat.sub_self] at h1
    exact h1
  have hcB : w13.cell? ⟨gb, J.length, none⟩ = some (.int .i64 (-72)) := by
    have h1 := (owns_later HB11.out hb14).cellAt J.length (by omega)
    rw [List.getElem?_append_right (by simp), i64s_length, Nat.sub_self] at h1
    exact h1
  have i1 : (0 : Int) ≤ (L.length : Int) := by omega
  have i2 : (L.length : Int) < ((L.length + 1 : Nat) : Int) := by omega
  have i3 : (0 : Int) ≤ (J.length : Int) := by omega
  have i4 : (J.length : Int) < ((J.length + 1 : Nat) : Int) := by omega
  go_upto_region 11 with (fail)
  have hl256 := mvL_len f L J sc bs lL
  have hj1024 := mvJ_len f L J sc bs lJ
  have hB13 := hB11.trans (hb14.mono hB11.size)
  have hG13 := hG11.later hb14
  have hSA := Slot.of_row (owns_later HA11.out hb14)
  have hSB := Slot.of_row (owns_later HB11.out hb14)
  clear hcA hcB i1 i2 i3 i4 hb12 hb13 hC11 hG11 hB11 HA11 HB11 hg hE
  obtain ⟨ll, hll⟩ : ∃ ll, mvL f L J sc bs = ll := ⟨_, rfl⟩
  obtain ⟨lj, hlj⟩ : ∃ lj, mvJ f L J sc bs = lj := ⟨_, rfl⟩
  rw [hll] at HX11 HL11 HM11 hl256
  rw [hlj] at HY11 HJ11 HK11 hj1024
  clear hll hlj
  have OX := owns_later HX11.out hb14
  have OY := owns_later HY11.out hb14
  have OM := owns_later HM11.out hb14
  have OK := owns_later HK11.out hb14
  have OL := owns_later HL11.out hb14
  have OJ := owns_later HJ11.out hb14
  have hs13 := hb14.size
  have hv1 := HV1.out
  have hv2 := HV2.out
  clear HX11 HY11 HM11 HK11 HL11 HJ11 hb14 HV1 HV2
  obtain ⟨ax, cx, rfl, RX, PX⟩ := owns_rd OX
  obtain ⟨ay, cy, rfl, RY, PY⟩ := owns_rd OY
  obtain ⟨am, cm, rfl, RM, PM⟩ := owns_rd OM
  obtain ⟨ak, ck, rfl, RK, PK⟩ := owns_rd OK
  obtain ⟨al, cl, rfl⟩ := owns_slice OL
  obtain ⟨aj, cj, rfl⟩ := owns_slice OJ
  obtain ⟨NL, hNL⟩ : ∃ NL, ll.length = NL := ⟨_, rfl⟩
  obtain ⟨NJ, hNJ⟩ : ∃ NJ, lj.length = NJ := ⟨_, rfl⟩
  have HLN : Hid (ll.length = NL) := hNL
  have HJN : Hid (lj.length = NJ) := hNJ
  rw [hNL] at OL OX OM PX PM HNL HNX HAP hl256 ⊢
  rw [hNJ] at OJ OY OK PY PK HNJ HNY HAP hj1024 ⊢
  clear hNL hNJ
  obtain ⟨s7, hs7⟩ : ∃ s7, w7.heap.size = s7 := ⟨_, rfl⟩
  rw [hs7] at OL OJ HNL HNJ HNX HNY HWS hv1
  clear hs7
  have HR0 : Hid (PA w w13 w13 (Pd (.slice al NL cl) (.slice aj NJ cj) ga gb) s7 (.slice al NL cl) NL (ps ll) (.slice aj NJ cj) NJ (ps lj) ga gb (L.length + 1) (J.length + 1)) := ⟨Ke.refl _ _, hB13, hSA, hSB, OL, OJ, HAP.out, HWS.out, HWA.out, HWB.out, by omega⟩
  have HNX1 : Hid (∀ b, ax = some ⟨b, 0, none⟩ → ¬ (Pd (.slice al NL cl) (.slice aj NJ cj) ga gb) b) := fun b e h => by
    have hb := PX b 0 e
    have h0 := HNX.out b hb
    rcases h with h | h | h | h
    · have := (HNL.out b h).1; omega
    · have := (HNJ.out b h).1; omega
    · exact own_ne OX hSA (by decide) (by rw [hb, h])
    · exact own_ne OX hSB (by decide) (by rw [hb, h])
  have HNY1 : Hid (∀ b, ay = some ⟨b, 0, none⟩ → ¬ (Pd (.slice al NL cl) (.slice aj NJ cj) ga gb) b) := fun b e h => by
    have hb := PY b 0 e
    have h0 := HNY.out b hb
    rcases h with h | h | h | h
    · have := (HNL.out b h).1; omega
    · have := (HNJ.out b h).1; omega
    · exact own_ne OY hSA (by decide) (by rw [hb, h])
    · exact own_ne OY hSB (by decide) (by rw [hb, h])
  have HNM1 : Hid (∀ b, am = some ⟨b, 0, none⟩ → ¬ (Pd (.slice al NL cl) (.slice aj NJ cj) ga gb) b) := fun b e h => by
    have hb := PM b 0 e
    have h0 := (own_ge OM hb).1
    rcases h with h | h | h | h
    · have := (HNL.out b h).2; omega
    · have := (HNJ.out b h).2; omega
    · exact own_ne OM hSA (by decide) (by rw [hb, h])
    · exact own_ne OM hSB (by decide) (by rw [hb, h])
  have HNK1 : Hid (∀ b, ak = some ⟨b, 0, none⟩ → ¬ (Pd (.slice al NL cl) (.slice aj NJ cj) ga gb) b) := fun b e h => by
    have hb := PK b 0 e
    have h0 := (own_ge OK hb).1
    rcases h with h | h | h | h
    · have := (HNL.out b h).2; omega
    · have := (HNJ.out b h).2; omega
    · exact own_ne OK hSA (by decide) (by rw [hb, h])
    · exact own_ne OK hSB (by decide) (by rw [hb, h])
  have HNB : Hid (¬ (Pd (.slice al NL cl) (.slice aj NJ cj) ga gb) Bg) := fun h => by
    have hsl : Slot w13 Bg 28 0 := ⟨_, hG13, Nat.zero_le _⟩
    rcases h with h | h | h | h
    · exact own_ne OL hsl (by decide) h
    · exact own_ne OJ hsl (by decide) h
    · obtain ⟨cs, h1, _⟩ := hSA
      rw [← h, hG13] at h1
      simp at h1
    · obtain ⟨cs, h1, _⟩ := hSB
      rw [← h, hG13] at h1
      simp at h1
  have HGV : Hid (∀ W, Ke (Pd (.slice al NL cl) (.slice aj NJ cj) ga gb) w13 W → Gv W Bg ga gb L.length J.length ca cb) := fun W h => (h.block Bg hG13.lt HNB.out).trans hG13
  have HRX : Hid (RdS w13 ax ll) := RX
  have HRY : Hid (RdS w13 ay lj) := RY
  have HRM : Hid (RdS w13 am ll) := RM
  have HRK : Hid (RdS w13 ak lj) := RK
  clear OX OY OM OK OL OJ RX RY RM RK PX PY PM PK HNX HNY HNL HNJ HNB HAP hSA hSB hG13 hB13 hv1 hv2 hs13
  obtain ⟨j0, hj0, hq0, hq1, hq2⟩ := infoSeat_parts
  go_wp2_with fail
  go_loopw [137] (fun i wx => ∃ (k : Nat) (Xl Xj : List Value), k ≤ NL ∧ i = .int .i64 (k : Int) ∧ PA w w13 wx (Pd (.slice al NL cl) (.slice aj NJ cj) ga gb) s7 (.slice al NL cl) NL Xl (.slice aj NJ cj) NJ Xj ga gb (L.length + 1) (J.length + 1)) (fun i _ => NL - (intOf i).toNat)
  case atStart => exact ⟨0, _, _, by omega, rfl, HR0.out⟩
  case round =>
    obtain ⟨k, Xl, Xj, hk, rfl, hpa⟩ := hrel
    have HR : Hid (PA w w13 wr (Pd (.slice al NL cl) (.slice aj NJ cj) ga gb) s7 (.slice al NL cl) NL Xl (.slice aj NJ cj) NJ Xj ga gb (L.length + 1) (J.length + 1)) := hpa
    clear hpa HR0
    by_cases hkN : k < NL
    · obtain ⟨gl, u0, u1, hal, c0, c1, f0, f1⟩ := own_cells HR.out.ol hkN
      have hPg : (Pd (.slice al NL cl) (.slice aj NJ cj) ga gb) gl := by
        rw [hal]
        exact .inl (by simp [Value.ownBlock])
      have hwg : w.heap.size ≤ gl := Nat.le_trans HR.out.ws (own_ge HR.out.ol (by rw [hal]; simp [Value.ownBlock])).1
      obtain ⟨Yl, Yj, h2⟩ := HR.out.set2 hPg hwg (k * 2) (k * 2 + 1) (.int .i64 (-1)) (.int .i64 0)
      have H2 : Hid (∃ Yl Yj, PA w w13 ((wr.setCell ⟨gl, k * 2, none⟩ (.int .i64 (-1))).setCell ⟨gl, k * 2 + 1, none⟩ (.int .i64 0)) (Pd (.slice al NL cl) (.slice aj NJ cj) ga gb) s7 (.slice al NL cl) NL Yl (.slice aj NJ cj) NJ Yj ga gb (L.length + 1) (J.length + 1)) := ⟨Yl, Yj, h2⟩
      have i1 : (0 : Int) ≤ (k : Int) := by omega
      have i2 : (k : Int) < (NL : Int) := by omega
      clear h2 hPg hwg HR
      subst hal
      go_wp2_with fail
      go_roundw
      case rel =>
        obtain ⟨Yl, Yj, h2⟩ := H2.out
        exact ⟨k + 1, Yl, Yj, by omega, by go_num, h2⟩
      case measure => simp [intOf]; omega
    · obtain rfl : NL = k := by omega
      have hdl : decide ((NL : Int) < (NL : Int)) = false := by simp
      obtain ⟨W1, hW1⟩ : ∃ W1, wr = W1 := ⟨_, rfl⟩
      rw [hW1] at HR ⊢
      have HRA : Hid (PA w w13 W1 (Pd (.slice al NL cl) (.slice aj NJ cj) ga gb) s7 (.slice al NL cl) NL Xl (.slice aj NJ cj) NJ Xj ga gb (L.length + 1) (J.length + 1)) := HR.out
      clear HR hW1
      go_wp2_with fail
      go_loopw [147] (fun i wx => ∃ (k : Nat) (Xl Xj : List Value), k ≤ NJ ∧ i = .int .i64 (k : Int) ∧ PA w w13 wx (Pd (.slice al NL cl) (.slice aj NJ cj) ga gb) s7 (.slice al NL cl) NL Xl (.slice aj NJ cj) NJ Xj ga gb (L.length + 1) (J.length + 1)) (fun i _ => NJ - (intOf i).toNat)
      case atStart => exact ⟨0, _, _, by omega, rfl, HRA.out⟩
      case round =>
        obtain ⟨k, Xl, Xj, hk, rfl, hpa⟩ := hrel
        have HR : Hid (PA w w13 wr (Pd (.slice al NL cl) (.slice aj NJ cj) ga gb) s7 (.slice al NL cl) NL Xl (.slice aj NJ cj) NJ Xj ga gb (L.length + 1) (J.length + 1)) := hpa
        clear hpa HRA
        by_cases hkN : k < NJ
        · obtain ⟨gl, u0, u1, hal, c0, c1, f0, f1⟩ := own_cells HR.out.oj hkN
          have hPg : (Pd (.slice al NL cl) (.slice aj NJ cj) ga gb) gl := by
            rw [hal]
            exact .inr (.inl (by simp [Value.ownBlock]))
          have hwg : w.heap.size ≤ gl := Nat.le_trans HR.out.ws (own_ge HR.out.oj (by rw [hal]; simp [Value.ownBlock])).1
          obtain ⟨Yl, Yj, h2⟩ := HR.out.set2 hPg hwg (k * 2) (k * 2 + 1) (.int .i64 (-2)) (.int .i64 0)
          have H2 : Hid (∃ Yl Yj, PA w w13 ((wr.setCell ⟨gl, k * 2, none⟩ (.int .i64 (-2))).setCell ⟨gl, k * 2 + 1, none⟩ (.int .i64 0)) (Pd (.slice al NL cl) (.slice aj NJ cj) ga gb) s7 (.slice al NL cl) NL Yl (.slice aj NJ cj) NJ Yj ga gb (L.length + 1) (J.length + 1)) := ⟨Yl, Yj, h2⟩
          have i1 : (0 : Int) ≤ (k : Int) := by omega
          have i2 : (k : Int) < (NJ : Int) := by omega
          clear h2 hPg hwg HR
          subst hal
          go_wp2_with fail
          go_roundw
          case rel =>
            obtain ⟨Yl, Yj, h2⟩ := H2.out
            exact ⟨k + 1, Yl, Yj, by omega, by go_num, h2⟩
          case measure => simp [intOf]; omega
        · obtain rfl : NJ = k := by omega
          have hdj : decide ((NJ : Int) < (NJ : Int)) = false := by simp
          have hvs := Nat.le_trans HR.out.vs HR.out.ke.size
          go_upto_region 22 with (at_builtin; (refine wpList_append_own_at _ rfl _ _ 32 rfl s7 38 j0 (.agg #[.int .i64 0, .int .i64 0]) 2 16 Tryd.underlying32 hj0 hq0 hq1 hq2 rfl (by decide) (.slice al NL cl) NL Xl rfl (HR.out.ol.alloc _) ⟨wr.heap.size, 0, none⟩ 1 1 [.int .i64 (-3), .int .i64 0] rfl rfl (cell_two_new _ _ _ _) (by simp [Value.oneCell']) (by unfold maxLen; omega) (by omega) (by simp; omega) ?_); intro v3 u3 hown hgr _ hat)
          have H3 : Hid (PA w w13 u3 (Pd (.slice al NL cl) (.slice aj NJ cj) ga gb) s7 v3 (NL + 1) (Xl ++ [.int .i64 (-3), .int .i64 0]) (.slice aj NJ cj) NJ Xj ga gb (L.length + 1) (J.length + 1)) := HR.out.appl hown hgr hat (fun g hg _ => .inl hg)
          obtain ⟨g3, c3, rfl, -⟩ := row_last H3.out.ol
          clear hown hgr hat HR hvs
          have hvs := Nat.le_trans H3.out.vs H3.out.ke.size
          go_upto_region 23 with (at_builtin; (refine wpList_append_own_at _ rfl _ _ 32 rfl s7 38 j0 (.agg #[.int .i64 0, .int .i64 0]) 2 16 Tryd.underlying32 hj0 hq0 hq1 hq2 rfl (by decide) (.slice aj NJ cj) NJ Xj rfl (H3.out.oj.alloc _) ⟨u3.heap.size, 0, none⟩ 1 1 [.int .i64 (-4), .int .i64 0] rfl rfl (cell_two_new _ _ _ _) (by simp [Value.oneCell']) (by unfold maxLen; omega) (by omega) (by simp; omega) ?_); intro v4 u4 hown hgr _ hat)
          have H4 : Hid (PA w w13 u4 (Pd (.slice al NL cl) (.slice aj NJ cj) ga gb) s7 (.slice (some ⟨g3, 0, none⟩) (NL + 1) c3) (NL + 1) (Xl ++ [.int .i64 (-3), .int .i64 0]) v4 (NJ + 1) (Xj ++ [.int .i64 (-4), .int .i64 0]) ga gb (L.length + 1) (J.length + 1)) := H3.out.appj hown hgr hat (fun g hg _ => .inr (.inl hg))
          obtain ⟨g4, c4, rfl, -⟩ := row_last H4.out.oj
          clear hown hgr hat H3 hvs
          obtain ⟨y0, y1⟩ := (HGV.out _ H4.out.ke).cells
          go_wp2_with fail
          clear y0 y1
          go_loopw [166] (fun i wx => ∃ k : Nat, k ≤ L.length ∧ i = .int .i64 (k : Int) ∧ PA w w13 wx (Pd (.slice al NL cl) (.slice aj NJ cj) ga gb) s7 (.slice (some ⟨g3, 0, none⟩) (NL + 1) c3) (NL + 1) (Xl ++ [.int .i64 (-3), .int .i64 0]) (.slice (some ⟨g4, 0, none⟩) (NJ + 1) c4) (NJ + 1) (Xj ++ [.int .i64 (-4), .int .i64 0]) ga gb (L.length + 1) (J.length + 1)) (fun i _ => L.length - (intOf i).toNat)
          case atStart => exact ⟨0, by omega, rfl, H4.out⟩
          case round =>
            obtain ⟨k, hk, rfl, hpa⟩ := hrel
            have HR : Hid (PA w w13 wr (Pd (.slice al NL cl) (.slice aj NJ cj) ga gb) s7 (.slice (some ⟨g3, 0, none⟩) (NL + 1) c3) (NL + 1) (Xl ++ [.int .i64 (-3), .int .i64 0]) (.slice (some ⟨g4, 0, none⟩) (NJ + 1) c4) (NJ + 1) (Xj ++ [.int .i64 (-4), .int .i64 0]) ga gb (L.length + 1) (J.length + 1)) := hpa
            clear hpa H4
            by_cases hkN : k < L.length
            · obtain ⟨⟨u0, c0⟩, f0⟩ := HR.out.sa.cell (j := k) (by omega)
              obtain ⟨y0, y1⟩ := (HGV.out _ HR.out.ke).cells
              have H2 : Hid (PA w w13 (wr.setCell ⟨ga, k, none⟩ (.int .i64 (-5))) (Pd (.slice al NL cl) (.slice aj NJ cj) ga gb) s7 (.slice (some ⟨g3, 0, none⟩) (NL + 1) c3) (NL + 1) (Xl ++ [.int .i64 (-3), .int .i64 0]) (.slice (some ⟨g4, 0, none⟩) (NJ + 1) c4) (NJ + 1) (Xj ++ [.int .i64 (-4), .int .i64 0]) ga gb (L.length + 1) (J.length + 1)) := HR.out.setI HR.out.sa (.inr (.inr (.inl rfl))) HR.out.wa k (.int .i64 (-5))
              have i1 : (0 : Int) ≤ (k : Int) := by omega
              have i2 : (k : Int) < (L.length : Int) := by omega
              clear HR
              go_wp2_with fail
              go_roundw
              case rel => exact ⟨k + 1, by omega, by go_num, H2.out⟩
              case measure => simp [intOf]; omega
            · obtain rfl : L.length = k := by omega
              have hda : decide ((L.length : Int) < (L.length : Int)) = false := by simp
              obtain ⟨W3, hW3⟩ : ∃ W3, wr = W3 := ⟨_, rfl⟩
              rw [hW3] at HR ⊢
              have HRC : Hid (PA w w13 W3 (Pd (.slice al NL cl) (.slice aj NJ cj) ga gb) s7 (.slice (some ⟨g3, 0, none⟩) (NL + 1) c3) (NL + 1) (Xl ++ [.int .i64 (-3), .int .i64 0]) (.slice (some ⟨g4, 0, none⟩) (NJ + 1) c4) (NJ + 1) (Xj ++ [.int .i64 (-4), .int .i64 0]) ga gb (L.length + 1) (J.length + 1)) := HR.out
              clear hW3 HR
              obtain ⟨y0, y1⟩ := (HGV.out _ HRC.out.ke).cells
              go_wp2_with fail
              clear y0 y1
              go_loopw [177] (fun i wx => ∃ k : Nat, k ≤ J.length ∧ i = .int .i64 (k : Int) ∧ PA w w13 wx (Pd (.slice al NL cl) (.slice aj NJ cj) ga gb) s7 (.slice (some ⟨g3, 0, none⟩) (NL + 1) c3) (NL + 1) (Xl ++ [.int .i64 (-3), .int .i64 0]) (.slice (some ⟨g4, 0, none⟩) (NJ + 1) c4) (NJ + 1) (Xj ++ [.int .i64 (-4), .int .i64 0]) ga gb (L.length + 1) (J.length + 1)) (fun i _ => J.length - (intOf i).toNat)
              case atStart => exact ⟨0, by omega, rfl, HRC.out⟩
              case round =>
                obtain ⟨k, hk, rfl, hpa⟩ := hrel
                have HR : Hid (PA w w13 wr (Pd (.slice al NL cl) (.slice aj NJ cj) ga gb) s7 (.slice (some ⟨g3, 0, none⟩) (NL + 1) c3) (NL + 1) (Xl ++ [.int .i64 (-3), .int .i64 0]) (.slice (some ⟨g4, 0, none⟩) (NJ + 1) c4) (NJ + 1) (Xj ++ [.int .i64 (-4), .int .i64 0]) ga gb (L.length + 1) (J.length + 1)) := hpa
                clear hpa HRC
                by_cases hkN : k < J.length
                · obtain ⟨⟨u0, c0⟩, f0⟩ := HR.out.sb.cell (j := k) (by omega)
                  obtain ⟨y0, y1⟩ := (HGV.out _ HR.out.ke).cells
                  have H2 : Hid (PA w w13 (wr.setCell ⟨gb, k, none⟩ (.int .i64 (-6))) (Pd (.slice al NL cl) (.slice aj NJ cj) ga gb) s7 (.slice (some ⟨g3, 0, none⟩) (NL + 1) c3) (NL + 1) (Xl ++ [.int .i64 (-3), .int .i64 0]) (.slice (some ⟨g4, 0, none⟩) (NJ + 1) c4) (NJ + 1) (Xj ++ [.int .i64 (-4), .int .i64 0]) ga gb (L.length + 1) (J.length + 1)) := HR.out.setI HR.out.sb (.inr (.inr (.inr rfl))) HR.out.wb k (.int .i64 (-6))
                  have i1 : (0 : Int) ≤ (k : Int) := by omega
                  have i2 : (k : Int) < (J.length : Int) := by omega
                  clear HR
                  go_wp2_with fail
                  go_roundw
                  case rel => exact ⟨k + 1, by omega, by go_num, H2.out⟩
                  case measure => simp [intOf]; omega
                · obtain rfl : J.length = k := by omega
                  have hdb : decide ((J.length : Int) < (J.length : Int)) = false := by simp
                  have hs1 := sameS_any am ax cm cx ll wr (by rw [HLN.out]; omega) (HRM.out.ke HR.out.ke HNM1.out) (HRX.out.ke HR.out.ke HNX1.out)
                  have hs2 := fun W (h : Below wr.heap.size wr W) => sameS_any ak ay ck cy lj W (by rw [HJN.out]; omega) ((HRK.out.ke HR.out.ke HNK1.out).later h) ((HRY.out.ke HR.out.ke HNY1.out).later h)
                  rw [HLN.out] at hs1
                  simp only [HJN.out] at hs2
                  go_wp2_with fail
                  refine hs1.mono ?_
                  rintro e u7 ⟨rfl, hb7⟩
                  clear hs1
                  go_wp2_with fail
                  refine (hs2 _ hb7).mono ?_
                  rintro e u8 ⟨rfl, hb8⟩
                  clear hs2
                  have hb9 := hb7.trans (hb8.mono hb7.size)
                  obtain ⟨g', c', e1, hc3⟩ := row_last (owns_later HR.out.ol hb9)
                  cases e1
                  obtain ⟨g', c', e1, hc4⟩ := row_last (owns_later HR.out.oj hb9)
                  cases e1
                  have i1 : (0 : Int) ≤ (NL : Int) := by omega
                  have i2 : (NL : Int) < ((NL + 1 : Nat) : Int) := by omega
                  have i3 : (0 : Int) ≤ (NJ : Int) := by omega
                  have i4 : (NJ : Int) < ((NJ + 1 : Nat) : Int) := by omega
                  have hB9 := HR.out.bel.trans (hb9.mono HR.out.bel.size)
                  clear hb7 hb8 hb9 HR
                  go_wp2_with fail
                  go_ret
                  exact ⟨rfl, hB9⟩
end Go.Proofs.YtieagbjempndnabDoor.rosterMemory
