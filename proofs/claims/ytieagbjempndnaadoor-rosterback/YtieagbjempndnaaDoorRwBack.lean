/- The walk of RosterBack. -/
import Derived.Test.YtieagbjempndnaaDoorRsK
import Derived.Test.YtieagbjempndnaaDoorOpenCa
import Derived.Test.YtieagbjempndnaaDoorRsSm
import Derived.Test.YtieagbjempndnaaDoorRsMath7
namespace Go.Proofs.YtieagbjempndnaaDoor.rosterBack
open Go.RowKit Go.Maps Go.Shelf
set_option linter.unusedVariables false
set_option linter.unusedSimpArgs false

theorem eq_run {a : Act} {o : Oper} {w : World} {f g : Nat → En} {x y : Operand} (ho : o.op = .binOp .eql 25 x y 25) (hx : a.eval x = .agg (rcs f)) (hy : a.eval y = .agg (rcs g)) : (execOp a.eval o).run Tryd.prog w = .ok (.value (.bool (eqB f g))) w := by
  have h1 := run_eqGuard_agg (P := Tryd.prog) w .eql 25 x y (rcs f) (rcs g) Tryd.eqGuardType25
  have h2 := run_eql_struct (P := Tryd.prog) w 25 (rcs f) (rcs g)
  rw [run_eqRo] at h2
  simp [execOp, ho, hx, hy, h1, h2, Sem.run_bind, Result.andThen]
set_option maxRecDepth 100000 in
set_option maxHeartbeats 2000000 in
theorem walk (f : Nat → En) (aL aJ : Option Addr) (cL cJ : Nat) (L J : List Int) (sc bs : Int) (w : World) (wf : ∀ i, i < 64 → (Lit.int .i64 (f i).who).wf = true ∧ (Lit.int .i64 (f i).bas).wf = true ∧ (Lit.int .i64 (f i).snc).wf = true) (rL : RdI w aL L) (rJ : RdI w aJ J) (lL : L.length * 8 ≤ 140737488351232) (lJ : J.length * 8 ≤ 140737488351232) (ws : (Lit.int .i64 sc).wf = true) (wb : (Lit.int .i64 bs).wf = true) (hT : Tb w) :
    Calls Tryd.prog 8 #[.agg (ccs f aL aJ L.length J.length cL cJ sc bs)] w fun e w' => e = .returned (.bool true) ∧ Below w.heap.size w w' := by
  have hC := CaAt.new w f aL aJ L.length J.length cL cJ sc bs
  have hB : Below w.heap.size w (w.alloc (.cells (ccs f aL aJ L.length J.length cL cJ sc bs) 41)) := (Below.refl _ w).alloc (Nat.le_refl _) _
  clear wf ws wb
  go_enter Tryd.func8, Tryd.ntmps8
  go_upto_region 1 with (fail)
  generalize w.alloc (.cells (ccs f aL aJ L.length J.length cL cJ sc bs) 41) = w1 at *
  obtain ⟨cc, hcc⟩ : ∃ cc, ccs f aL aJ L.length J.length cL cJ sc bs = cc := ⟨_, rfl⟩
  rw [hcc]
  clear hcc
  go_wp2_with fail
  refine (lives_any _ (hT.later hB)).mono ?_
  rintro e w2 ⟨rfl, hb2⟩
  have hC2 := hC.later hb2
  have hB2 := hB.trans (hb2.mono hB.size)
  clear hC hB hb2
  obtain ⟨x0, x1, x2, x3⟩ := hC2.cells
  go_upto_region 4 with (fail)
  have hN3 := heap_alloc_last w2 (.cells #[.slice none 0 0, .slice aJ J.length cJ] 37)
  have hb3 : Below w2.heap.size w2 (w2.alloc (.cells #[.slice none 0 0, .slice aJ J.length cJ] 37)) := (Below.refl _ w2).alloc (Nat.le_refl _) _
  have hC3 := hC2.later hb3
  have hB3 := hB2.trans (hb3.mono hB2.size)
  generalize w2.alloc (.cells #[.slice none 0 0, .slice aJ J.length cJ] 37) = w3 at *
  generalize w2.heap.size = Bb at *
  clear x0 x1 x2 x3 hC2 hB2 hb3
  obtain ⟨x0, x1, x2, x3⟩ := hC3.cells
  have y0 := cell_of_row w3 Bb 0 _ _ _ hN3
  have y1 := cell_of_row w3 Bb 1 _ _ _ hN3
  simp only [List.getElem?_toArray, List.getElem?_cons_zero, List.getElem?_cons_succ] at y0 y1
  have hm := move_any f none aJ 0 cJ [] J sc bs w3 (hT.later hB3) (by decide) (by omega) (RdI.nil _ _) (rJ.later hB3)
  go_wp2_with (refine ld25c hC3 rfl _ rfl rfl ?_)
  refine hm.mono ?_
  rintro e w4 ⟨⟨vl, vj, rfl, hP⟩, hb4⟩
  have hC4 := hC3.later hb4
  have hB4 := hB3.trans (hb4.mono hB3.size)
  have hz4 : RoAt (w4.alloc (.cells Tryd.zeroCells25 25)) w4.heap.size (fun _ => zE) := by rw [alloc_zero]; exact RoAt.new _ _
  clear hm hb4 x0 x1 x2 x3 y0 y1 hN3 hC3 hB3 hP
  have HBE : Hid (mvE f [] J sc bs = 0 → mvE (mvR f [] J sc bs) J [] sc 0 = 0) := back_E
  have HBR : Hid (mvE f [] J sc bs = 0 → ∀ i, i < 64 → mvR (mvR f [] J sc bs) J [] sc 0 i = f i) := back_R
  obtain ⟨g, hg⟩ : ∃ g, mvR f [] J sc bs = g := ⟨_, rfl⟩
  obtain ⟨E, hE⟩ : ∃ E, mvE f [] J sc bs = E := ⟨_, rfl⟩
  rw [hg, hE] at HBE HBR
  rw [hg, hE]
  clear hg hE
  go_upto_region 5 with (refine st25 (g := g) hz4 rfl _ _ rfl rfl rfl ?_)
  rw [alloc_zero, World.setRow_alloc_new]
  have hG5 := RoAt.new w4 g
  have hb5 := alloc_ro w4 g
  have hC5 := hC4.later hb5
  have hB5 := hB4.trans (hb5.mono hB4.size)
  generalize w4.alloc (.cells (rcs g) 25) = w5 at *
  generalize w4.heap.size = B4 at *
  clear hC4 hB4 hb5 hz4
  obtain ⟨cg, hcg⟩ : ∃ cg, rcs g = cg := ⟨_, rfl⟩
  rw [hcg]
  by_cases hE0 : E = 0
  · have HE := HBE.out hE0
    have HR : Hid (eqB (mvR g J [] sc 0) f = true) := eqB_iff.2 (HBR.out hE0)
    have hml : (mvL g J [] sc 0).length = J.length := by unfold mvL; rw [if_pos HE, evl_length]
    have hmj : (mvJ g J [] sc 0).length = 0 := by unfold mvJ; rw [if_pos HE, adl_length]; rfl
    subst hE0
    go_upto_region 7 with (fail)
    refine wp_region_lit ?_
    refine ld25 hG5 rfl _ rfl rfl ?_
    obtain ⟨x0, x1, x2, x3⟩ := hC5.cells
    have hm := move_any g aJ none cJ 0 J [] sc 0 w5 (hT.later hB5) (by omega) (by decide) (rJ.later hB5) (RdI.nil _ _)
    rw [hcg] at hm ⊢
    go_wp2_with fail
    refine hm.mono ?_
    rintro e w6 ⟨⟨ul, uj, rfl, hQ⟩, hb6⟩
    have hC6 := hC5.later hb6
    have hB6 := hB5.trans (hb6.mono hB5.size)
    have hz6 : RoAt (w6.alloc (.cells Tryd.zeroCells25 25)) w6.heap.size (fun _ => zE) := by rw [alloc_zero]; exact RoAt.new _ _
    have hul := hQ.left
    have huj := hQ.join
    rw [hml] at hul
    rw [hmj] at huj
    obtain ⟨au, ku, rfl⟩ := owns_slice hul
    obtain ⟨aw, kw, rfl⟩ := owns_slice huj
    rw [HE]
    obtain ⟨h, hh⟩ : ∃ h, mvR g J [] sc 0 = h := ⟨_, rfl⟩
    rw [hh] at HR ⊢
    clear hm hb6 x0 x1 x2 x3 hC5 hB5 hG5 hQ hul huj HE hml hmj hh HBE HBR
    go_upto_region 8 with (refine st25 (g := h) hz6 rfl _ _ rfl rfl rfl ?_)
    rw [alloc_zero, World.setRow_alloc_new]
    have hH7 := RoAt.new w6 h
    have hb7 := alloc_ro w6 h
    have hC7 := hC6.later hb7
    have hB7 := hB6.trans (hb7.mono hB6.size)
    generalize w6.alloc (.cells (rcs h) 25) = w7 at *
    generalize w6.heap.size = B6 at *
    clear hC6 hB6 hb7 hz6
    obtain ⟨x0, x1, x2, x3⟩ := hC7.cells
    refine wp_region_lit ?_
    go_wp2_with (first
      | (refine rd_guard (v := .agg (rcs h)) (by rfl) (ld25_exec hH7 rfl rfl) ?_)
      | (refine rd_guard (v := .agg (rcs f)) (by rfl) (hC7.exec rfl rfl) ?_)
      | (refine rd_guard (v := .bool true) (by rfl) (by rw [eq_run (f := h) (g := f) rfl rfl rfl, HR.out]) ?_))
    go_ret
    exact ⟨rfl, hB7⟩
  · have hE1 : (E == 0) = false := by simp [hE0]
    go_wp2_with fail
    go_ret
    exact ⟨rfl, hB5⟩
end Go.Proofs.YtieagbjempndnaaDoor.rosterBack
