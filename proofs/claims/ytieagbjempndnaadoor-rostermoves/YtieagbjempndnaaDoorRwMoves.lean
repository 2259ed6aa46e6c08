/- The walk of RosterMoves. -/
import Derived.Test.YtieagbjempndnaaDoorRsK
import Derived.Test.YtieagbjempndnaaDoorOpenCa
import Derived.Test.YtieagbjempndnaaDoorRsSm
import Derived.Test.YtieagbjempndnaaDoorRsMath6
namespace Go.Proofs.YtieagbjempndnaaDoor.rosterMoves
open Go.RowKit Go.Maps Go.Shelf
set_option linter.unusedVariables false
set_option linter.unusedSimpArgs false

set_option maxRecDepth 100000 in
set_option maxHeartbeats 2000000 in
theorem walk (f : Nat → En) (aL aJ : Option Addr) (cL cJ : Nat) (L J : List Int) (sc bs : Int) (w : World) (wf : ∀ i, i < 64 → (Lit.int .i64 (f i).who).wf = true ∧ (Lit.int .i64 (f i).bas).wf = true ∧ (Lit.int .i64 (f i).snc).wf = true) (rL : RdI w aL L) (rJ : RdI w aJ J) (lL : L.length * 8 ≤ 140737488351232) (lJ : J.length * 8 ≤ 140737488351232) (ws : (Lit.int .i64 sc).wf = true) (wb : (Lit.int .i64 bs).wf = true) (hT : Tb w) :
    Calls Tryd.prog 5 #[.agg (ccs f aL aJ L.length J.length cL cJ sc bs)] w fun e w' => e = .returned (.bool true) ∧ Below w.heap.size w w' := by
  have hC := CaAt.new w f aL aJ L.length J.length cL cJ sc bs
  have hB : Below w.heap.size w (w.alloc (.cells (ccs f aL aJ L.length J.length cL cJ sc bs) 41)) := (Below.refl _ w).alloc (Nat.le_refl _) _
  clear wf ws wb
  go_enter Tryd.func5, Tryd.ntmps5
  go_upto_region 1 with (fail)
  generalize w.alloc (.cells (ccs f aL aJ L.length J.length cL cJ sc bs) 41) = w1 at *
  obtain ⟨cc, hcc⟩ : ∃ cc, ccs f aL aJ L.length J.length cL cJ sc bs = cc := ⟨_, rfl⟩
  rw [hcc]
  clear hcc
  go_wp2_with fail
  refine (lives_any _ (hT.later hB)).mono ?_
  rintro e w2 ⟨rfl, hb2⟩
  have hC2 := hC.later hb2
  have hB2 := hB.trans (hb2.mono hB.size)
  clear hC hB hb2
  go_upto_region 3 with (fail)
  obtain ⟨x0, x1, x2, x3⟩ := hC2.cells
  have hm := move_any f aL aJ cL cJ L J sc bs w2 (hT.later hB2) (by omega) (by omega) (rL.later hB2) (rJ.later hB2)
  go_wp2_with (refine ld25c hC2 rfl _ rfl rfl ?_)
  refine hm.mono ?_
  rintro e w3 ⟨⟨vl, vj, rfl, hP⟩, hb3⟩
  have hC3 := hC2.later hb3
  have hB3 := hB2.trans (hb3.mono hB2.size)
  have hz3 : RoAt (w3.alloc (.cells Tryd.zeroCells25 25)) w3.heap.size (fun _ => zE) := by rw [alloc_zero]; exact RoAt.new _ _
  clear hm hb3 x0 x1 x2 x3 hC2 hB2
  obtain ⟨g, hg⟩ : ∃ g, mvR f L J sc bs = g := ⟨_, rfl⟩
  obtain ⟨E, hE⟩ : ∃ E, mvE f L J sc bs = E := ⟨_, rfl⟩
  have HRT : Hid (E = 0 → chk g = true) := fun h => by rw [← hg]; exact mvR_right (hE.trans h)
  rw [hg, hE]
  go_upto_region 4 with (refine st25 (g := g) hz3 rfl _ _ rfl rfl rfl ?_)
  rw [alloc_zero, World.setRow_alloc_new]
  have hG4 := RoAt.new w3 g
  have hb4 := alloc_ro w3 g
  have hC4 := hC3.later hb4
  have hB4 := hB3.trans (hb4.mono hB3.size)
  have hL4 := owns_later hP.left hb4
  have hJ4 := owns_later hP.join hb4
  generalize w3.alloc (.cells (rcs g) 25) = w4 at *
  generalize w3.heap.size = B3 at *
  clear hC3 hB3 hP hb4 hz3
  obtain ⟨x0, x1, x2, x3⟩ := hC4.cells
  have hm := rMove_any f aL aJ cL cJ L J sc bs w4 (by omega) (by omega) (rL.later hB4) (rJ.later hB4)
  go_wp2_with (refine ld25c hC4 rfl _ rfl rfl ?_)
  refine hm.mono ?_
  rintro e w5 ⟨⟨ul, uj, rfl, hQ⟩, hb5⟩
  have hB5 := hB4.trans (hb5.mono hB4.size)
  have hG5 := hG4.later hb5
  have hL5 := owns_later hL4 hb5
  have hJ5 := owns_later hJ4 hb5
  have hz5 : RoAt (w5.alloc (.cells Tryd.zeroCells25 25)) w5.heap.size (fun _ => zE) := by rw [alloc_zero]; exact RoAt.new _ _
  clear hm hb5 x0 x1 x2 x3 hC4 hB4 hG4 hL4 hJ4
  rw [hg, hE]
  go_upto_region 5 with (refine st25 (g := g) hz5 rfl _ _ rfl rfl rfl ?_)
  rw [alloc_zero, World.setRow_alloc_new]
  have hH6 := RoAt.new w5 g
  have hb6 := alloc_ro w5 g
  have hB6 := hB5.trans (hb6.mono hB5.size)
  have hG6 := hG5.later hb6
  obtain ⟨al, kl, rfl, pl, _⟩ := owns_rd (owns_later hL5 hb6)
  obtain ⟨aj, kj, rfl, pj, _⟩ := owns_rd (owns_later hJ5 hb6)
  obtain ⟨bl', ml, rfl, ql, _⟩ := owns_rd (owns_later hQ.left hb6)
  obtain ⟨bj', mj, rfl, qj, _⟩ := owns_rd (owns_later hQ.join hb6)
  have hl64 : (mvL f L J sc bs).length < 4611686018427387904 := by unfold mvL; split; (rw [evl_length]; omega); simp
  have hj64 : (mvJ f L J sc bs).length < 4611686018427387904 := by unfold mvJ; split; (rw [adl_length]; omega); simp
  generalize w5.alloc (.cells (rcs g) 25) = w6 at *
  generalize w5.heap.size = B5 at *
  clear hL5 hJ5 hQ hb6 hG5 hB5 hz5 hg hE
  have s1 := sameS_any al bl' kl ml (mvL f L J sc bs) w6 hl64 pl ql
  have s2 := fun W (h : Below w6.heap.size w6 W) => sameS_any aj bj' kj mj (mvJ f L J sc bs) W hj64 (pj.later h) (qj.later h)
  have ck := fun W => check_any g W
  have HEQ : eqB g g = true := eqB_refl g
  obtain ⟨NL, hNL⟩ : ∃ NL, (mvL f L J sc bs).length = NL := ⟨_, rfl⟩
  obtain ⟨NJ, hNJ⟩ : ∃ NJ, (mvJ f L J sc bs).length = NJ := ⟨_, rfl⟩
  rw [hNL] at s1 ⊢
  simp only [hNJ] at s2
  rw [hNJ]
  clear hNL hNJ pl pj ql qj hl64 hj64
  refine wp_region_lit ?_
  refine ld25 hG6 rfl _ rfl rfl ?_
  refine ld25 hH6 rfl _ rfl rfl ?_
  refine eq25 HEQ rfl _ _ rfl rfl rfl ?_
  obtain ⟨cg, hcg⟩ : ∃ cg, rcs g = cg := ⟨_, rfl⟩
  rw [hcg]
  simp only [hcg] at ck
  by_cases hE0 : E = 0
  · have hck := chkE_tt (HRT.out hE0)
    subst hE0
    rw [hck] at ck
    go_wp2_with fail
    refine s1.mono ?_
    rintro e w7 ⟨rfl, hb7⟩
    have hG7 := hG6.later hb7
    have hB7 := hB6.trans (hb7.mono hB6.size)
    go_wp2_with fail
    refine (s2 _ hb7).mono ?_
    rintro e w8 ⟨rfl, hb8⟩
    have hG8 := hG7.later hb8
    have hB8 := hB7.trans (hb8.mono hB7.size)
    go_wp2_with (refine rd_guard (v := .agg cg) (by rfl) (by rw [← hcg]; exact ld25_exec hG8 rfl rfl) ?_)
    refine (ck _).mono ?_
    rintro e w9 ⟨rfl, hb9⟩
    go_wp2_with fail
    go_ret
    exact ⟨rfl, hB8.trans (hb9.mono hB8.size)⟩
  · have hE1 : (E == 0) = false := by simp [hE0]
    go_wp2_with fail
    refine s1.mono ?_
    rintro e w7 ⟨rfl, hb7⟩
    have hB7 := hB6.trans (hb7.mono hB6.size)
    go_wp2_with fail
    refine (s2 _ hb7).mono ?_
    rintro e w8 ⟨rfl, hb8⟩
    have hB8 := hB7.trans (hb8.mono hB7.size)
    go_wp2_with fail
    go_ret
    exact ⟨rfl, hB8⟩
end Go.Proofs.YtieagbjempndnaaDoor.rosterMoves
