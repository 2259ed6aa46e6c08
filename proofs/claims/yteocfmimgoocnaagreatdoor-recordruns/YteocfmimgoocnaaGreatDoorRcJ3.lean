/- RcE, RcF, RcK, RcG, joined. -/
import Derived.Test.YteocfmimgoocnaaGreatDoorRcJ2
import Derived.Test.YteocfmimgoocnaaGreatDoorPlI
import Derived.Test.YteocfmimgoocnaaGreatDoorPlJ1
/- Contracts: step, Of. -/
namespace Go.Proofs.YteocfmimgoocnaaGreatDoor.Rc
open Go.RowKit Go.Maps Go.Great
open Rt (Ky zK kcs)
open Rs (En zE rcs tkn RdI RdS ps evl Tb i64s owns_later owns_slice owns_type)
set_option linter.unusedVariables false
set_option linter.unusedSimpArgs false

/- The record of a step. -/
def oLv (t : Tr) (L J : List Int) : List Int := if plE t L J = 0 then L else []
def recA (t : Tr) (L J : List Int) (vL vJ : Value) : Array Value := #[.int .i64 (pnT t L J).ep, .int .i64 (pnT t L J).fr, vL, vJ]
structure RecP (w w' : World) (t : Tr) (L J : List Int) (vL vJ : Value) : Prop where
  lv : w'.ownsRow w.heap.size 3 1 vL (oLv t L J).length (i64s (oLv t L J))
  jn : w'.ownsRow w.heap.size 62 2 vJ (pnJ t L J).length (ps (pnJ t L J))
def StepA (w w' : World) (t : Tr) (L J : List Int) (e : Ending) : Prop := ∃ vl vj vi vL vJ, e = .returned (.tuple #[.agg (tcs (pnT t L J)), .agg #[.int .i64 (pnP t L J), vl, vj, vi], .agg (recA t L J vL vJ), .int .i64 (plE t L J)]) ∧ NextP w w' t L J vl vj vi ∧ RecP w w' t L J vL vJ
theorem StepA.no {w w' : World} {t : Tr} {L J : List Int} {E : Int} (h : plE t L J = E) (h0 : E ≠ 0) : StepA w w' t L J (.returned (.tuple #[.agg (tcs (tz 0)), .agg rkz, .agg rz, .int .i64 E])) := by
  obtain ⟨vl, vj, vi, e, hP⟩ := NextA.no (w := w) (w' := w') h h0
  simp only [Ending.returned.injEq, Value.tuple.injEq, Array.mk.injEq, List.cons.injEq, and_true] at e
  refine ⟨vl, vj, vi, .slice none 0 0, .slice none 0 0, ?_, hP, ?_, ?_⟩
  · rw [e.1, e.2.1]
    have e1 : recA t L J (.slice none 0 0) (.slice none 0 0) = rz := by unfold recA pnT; rw [h, if_neg h0]; rfl
    rw [e1, h]
  · unfold oLv; rw [h, if_neg h0]; exact World.ownsRow_nil _ _ _ _
  · unfold pnJ; rw [h, if_neg h0]; exact World.ownsRow_nil _ _ _ _
theorem results_st {fn : Func} {p q r t : Tmp} (hf : fn.results = #[.cell p 31, .cell q 45, .cell r 38, .tmp t]) (tmps : Array Value) (W : World) (K D E : Nat) (u : Tr) (cs ds : Array Value) (hp : tmps[p]? = some (.pointer (some ⟨K, 0, none⟩))) (hq : tmps[q]? = some (.pointer (some ⟨D, 0, none⟩))) (hr : tmps[r]? = some (.pointer (some ⟨E, 0, none⟩))) (hk : TrAt W K u) (hd : RkAt W D cs) (hc : cs.size = 4) (he : RcAt W E ds) (hds : ds.size = 4) :
    (results fn tmps).run Tryz.prog W = .ok (.tuple #[.agg (tcs u), .agg cs, .agg ds, tmps.getD t undef]) W := by
  have h := run_loadVar_row W K _ 31 _ _ _ hk Tryz.underlying31 rfl (by rw [tcs_size]; exact infoT)
  have h2 := run_loadVar_row W D _ 45 _ _ _ hd Tryz.underlying45 rfl (by rw [hc]; exact infoRk)
  have h3 := run_loadVar_row W E _ 38 _ _ _ he Tryz.underlying38 rfl (by rw [hds]; exact infoRc)
  simp [results, hf, hp, hq, hr, asAddr, h, h2, h3]
theorem RkW {w : World} {B : Nat} {cs : Array Value} (h : RkAt w B cs) (hc : cs.size = 4) : (Instr.loadAt 45 (.pointer (some ⟨B, 0, none⟩))).run Tryz.prog w = .ok (.agg cs) w :=
  part_run h Tryz.underlying45 rfl infoRk 0 hc fun j hj => by rw [Nat.zero_add]
theorem RcW {w : World} {B : Nat} {cs : Array Value} (h : RcAt w B cs) (hc : cs.size = 4) : (Instr.loadAt 38 (.pointer (some ⟨B, 0, none⟩))).run Tryz.prog w = .ok (.agg cs) w :=
  part_run h Tryz.underlying38 rfl infoRc 0 hc fun j hj => by rw [Nat.zero_add]
theorem RkLater {w w' : World} {B : Nat} {cs : Array Value} (h : RkAt w B cs) (hb : Below w.heap.size w w') : RkAt w' B cs := (hb.block B (Array.getElem?_eq_some_iff.1 h).1).trans h
theorem RkCells {w : World} {B : Nat} {v0 v1 v2 v3 : Value} (h : RkAt w B #[v0, v1, v2, v3]) : w.cell? ⟨B, 0, none⟩ = some v0 ∧ w.cell? ⟨B, 1, none⟩ = some v1 ∧ w.cell? ⟨B, 2, none⟩ = some v2 ∧ w.cell? ⟨B, 3, none⟩ = some v3 :=
  ⟨cell_of_row w B 0 _ _ _ h, cell_of_row w B 1 _ _ _ h, cell_of_row w B 2 _ _ _ h, cell_of_row w B 3 _ _ _ h⟩
theorem rz_one : rz.all (·.oneCell') = true := by simp [rz, Value.oneCell']
/- The arguments, boxed, and the answer's places. -/
structure SX (w W : World) (B C K D E : Nat) (t : Tr) (aL aJ : Option Addr) (nL nJ cL cJ : Nat) : Prop where
  nx : NX w W B C K D t aL aJ nL nJ cL cJ
  re : RcAt W E rz
  gE : w.heap.size ≤ E
theorem SX.later {w W W' : World} {B C K D E : Nat} {t : Tr} {aL aJ : Option Addr} {nL nJ cL cJ : Nat} (h : SX w W B C K D E t aL aJ nL nJ cL cJ) (hb : Below W.heap.size W W') : SX w W' B C K D E t aL aJ nL nJ cL cJ := ⟨h.nx.later hb, h.re.later hb, h.gE⟩
theorem SX.new (w : World) (t : Tr) (aL aJ : Option Addr) (nL nJ cL cJ : Nat) : SX w (((((w.alloc (.cells (tcs t) 31)).alloc (.cells #[.slice aL nL cL, .slice aJ nJ cJ] 34)).alloc (.cells (tcs (tz 0)) 31)).alloc (.cells rkz 45)).alloc (.cells rz 38)) w.heap.size (w.heap.size + 1) (w.heap.size + 2) (w.heap.size + 3) (w.heap.size + 4) t aL aJ nL nJ cL cJ := by
  have h1 := NX.new w t aL aJ nL nJ cL cJ
  generalize hW : (((w.alloc (.cells (tcs t) 31)).alloc (.cells #[.slice aL nL cL, .slice aJ nJ cJ] 34)).alloc (.cells (tcs (tz 0)) 31)).alloc (.cells rkz 45) = W at *
  have hs : W.heap.size = w.heap.size + 4 := by rw [← hW]; simp
  have h3 := heap_alloc_last W (.cells rz 38)
  rw [hs] at h3
  exact ⟨h1.later (below_alloc _ _), h3, by omega⟩
/- The answers in their boxes, the lists, the answer's places. -/
structure Rw (w W : World) (vl vj vi vL vJ : Value) (ll lj : List (Int × Int)) (li : List It) (L : List Int) (J : List (Int × Int)) : Prop where
  left : W.ownsRow w.heap.size 62 2 vl ll.length (ps ll)
  join : W.ownsRow w.heap.size 62 2 vj lj.length (ps lj)
  item : W.ownsRow w.heap.size 98 6 vi li.length (isl li)
  lv : W.ownsRow w.heap.size 3 1 vL L.length (i64s L)
  jn : W.ownsRow w.heap.size 62 2 vJ J.length (ps J)
theorem Rw.later {w W W' : World} {vl vj vi vL vJ : Value} {ll lj : List (Int × Int)} {li : List It} {L : List Int} {J : List (Int × Int)} (h : Rw w W vl vj vi vL vJ ll lj li L J) (hb : Below W.heap.size W W') : Rw w W' vl vj vi vL vJ ll lj li L J :=
  ⟨owns_later h.left hb, owns_later h.join hb, owns_later h.item hb, owns_later h.lv hb, owns_later h.jn hb⟩
theorem Rw.row {w W : World} {vl vj vi vL vJ : Value} {ll lj : List (Int × Int)} {li : List It} {L : List Int} {J : List (Int × Int)} (h : Rw w W vl vj vi vL vJ ll lj li L J) {B : Nat} {cs : Array Value} {T : TypeId} (hB : W.heap[B]? = some (.cells cs T (0, 0))) (h1 : 62 ≠ T) (h2 : 98 ≠ T) (h3 : 3 ≠ T) (ds : Array Value) : Rw w (W.setRow B ds) vl vj vi vL vJ ll lj li L J :=
  ⟨owns_type h.left hB h1 ds, owns_type h.join hB h1 ds, owns_type h.item hB h2 ds, owns_type h.lv hB h3 ds, owns_type h.jn hB h1 ds⟩
structure SF (w W : World) (N G A K D E : Nat) (n : Tr) (rk rc : Array Value) (vl vj vi vL vJ : Value) (ll lj : List (Int × Int)) (li : List It) (L : List Int) (J : List (Int × Int)) : Prop where
  n : TrAt W N n
  m : RkAt W G rk
  a : RcAt W A rc
  ze : ∃ u, TrAt W K u
  rk : ∃ cs, cs.size = 4 ∧ RkAt W D cs
  re : ∃ cs, cs.size = 4 ∧ RcAt W E cs
  rows : Rw w W vl vj vi vL vJ ll lj li L J
  bel : Below w.heap.size w W
  nK : N ≠ K
  nD : G ≠ D
  nE : A ≠ E
  gK : w.heap.size ≤ K
  gD : w.heap.size ≤ D
  gE : w.heap.size ≤ E
section
variable {w W W' : World} {N G A K D E : Nat} {n u : Tr} {rk rc cs ds c : Array Value} {vl vj vi vL vJ : Value} {ll lj : List (Int × Int)} {li : List It} {L : List Int} {J : List (Int × Int)}
theorem SF.later (h : SF w W N G A K D E n rk rc vl vj vi vL vJ ll lj li L J) (hb : Below W.heap.size W W') : SF w W' N G A K D E n rk rc vl vj vi vL vJ ll lj li L J :=
  ⟨h.n.later hb, RkLater h.m hb, h.a.later hb, h.ze.elim fun u hu => ⟨u, hu.later hb⟩, h.rk.elim fun cs hc => ⟨cs, hc.1, RkLater hc.2 hb⟩, h.re.elim fun cs hc => ⟨cs, hc.1, hc.2.later hb⟩, h.rows.later hb, h.bel.trans (hb.mono h.bel.size), h.nK, h.nD, h.nE, h.gK, h.gD, h.gE⟩
theorem SF.setT (h : SF w W N G A K D E n rk rc vl vj vi vL vJ ll lj li L J) (hc : tcs n = c) : SF w (W.setRow K c) N G A K D E n rk rc vl vj vi vL vJ ll lj li L J ∧ TrAt (W.setRow K c) K n := by
  subst hc
  obtain ⟨u, hu⟩ := h.ze
  have h1 := hu.row n
  exact ⟨⟨(Rt.row_other h.nK _).trans h.n, (Rt.row_other (block_ne h.m hu (by decide)) _).trans h.m, (Rt.row_other (block_ne h.a hu (by decide)) _).trans h.a, ⟨n, h1⟩, h.rk.elim fun cs hc => ⟨cs, hc.1, (Rt.row_other (block_ne hc.2 hu (by decide)) _).trans hc.2⟩, h.re.elim fun cs hc => ⟨cs, hc.1, (Rt.row_other (block_ne hc.2 hu (by decide)) _).trans hc.2⟩, h.rows.row hu (by decide) (by decide) (by decide) _, Rt.setRow_below h.gK h.bel _, h.nK, h.nD, h.nE, h.gK, h.gD, h.gE⟩, h1⟩
theorem SF.setD (h : SF w W N G A K D E n rk rc vl vj vi vL vJ ll lj li L J) (hu : TrAt W K u) (hd : RkAt W D cs) (h4 : ds.size = 4) : SF w (W.setRow D ds) N G A K D E n rk rc vl vj vi vL vJ ll lj li L J ∧ TrAt (W.setRow D ds) K u ∧ RkAt (W.setRow D ds) D ds :=
  ⟨⟨(Rt.row_other (block_ne h.n hd (by decide)) _).trans h.n, (Rt.row_other h.nD _).trans h.m, (Rt.row_other (block_ne h.a hd (by decide)) _).trans h.a, ⟨u, (Rt.row_other (block_ne hu hd (by decide)) _).trans hu⟩, ⟨ds, h4, Rt.heap_setRow_same hd _⟩, h.re.elim fun cs hc => ⟨cs, hc.1, (Rt.row_other (block_ne hc.2 hd (by decide)) _).trans hc.2⟩, h.rows.row hd (by decide) (by decide) (by decide) _, Rt.setRow_below h.gD h.bel _, h.nK, h.nD, h.nE, h.gK, h.gD, h.gE⟩, (Rt.row_other (block_ne hu hd (by decide)) _).trans hu, Rt.heap_setRow_same hd _⟩
theorem SF.setE (h : SF w W N G A K D E n rk rc vl vj vi vL vJ ll lj li L J) (hu : TrAt W K u) {es : Array Value} (hd : RkAt W D es) (he : RcAt W E cs) (h4 : ds.size = 4) : SF w (W.setRow E ds) N G A K D E n rk rc vl vj vi vL vJ ll lj li L J ∧ TrAt (W.setRow E ds) K u ∧ RkAt (W.setRow E ds) D es ∧ RcAt (W.setRow E ds) E ds :=
  ⟨⟨(Rt.row_other (block_ne h.n he (by decide)) _).trans h.n, (Rt.row_other (block_ne h.m he (by decide)) _).trans h.m, (Rt.row_other h.nE _).trans h.a, ⟨u, (Rt.row_other (block_ne hu he (by decide)) _).trans hu⟩, h.rk.elim fun cs hc => ⟨cs, hc.1, (Rt.row_other (block_ne hc.2 he (by decide)) _).trans hc.2⟩, ⟨ds, h4, Rt.heap_setRow_same he _⟩, h.rows.row he (by decide) (by decide) (by decide) _, Rt.setRow_below h.gE h.bel _, h.nK, h.nD, h.nE, h.gK, h.gD, h.gE⟩, (Rt.row_other (block_ne hu he (by decide)) _).trans hu, (Rt.row_other (block_ne hd he (by decide)) _).trans hd, Rt.heap_setRow_same he _⟩
end
theorem own_cell {W : World} {b : Nat} {e : TypeId} {sz : Nat} {v : Value} {n : Nat} {xs : List Value} (h : W.ownsRow b e sz v n xs) {B : Nat} {cs : Array Value} {T : TypeId} (hB : W.heap[B]? = some (.cells cs T (0, 0))) (hne : e ≠ T) (j : Nat) (u : Value) : (W.setCell ⟨B, j, none⟩ u).ownsRow b e sz v n xs :=
  Rs.own_other h fun g hg => Rt.other_setCell (fun e => own_type h hB (Ne.symm hne) (by rw [hg, e])) _ _
theorem SF.setA {w W : World} {N G A K D E : Nat} {n : Tr} {rk rc rc' : Array Value} {vl vj vi vL vJ vL' vJ' : Value} {ll lj : List (Int × Int)} {li : List It} {L L' : List Int} {J J' : List (Int × Int)} (h : SF w W N G A K D E n rk rc vl vj vi vL vJ ll lj li L J) (hA : w.heap.size ≤ A) (j : Nat) (u : Value) (hc : rc.setIfInBounds j u = rc')
    (r1 : W.ownsRow w.heap.size 3 1 vL' L'.length (i64s L')) (r2 : W.ownsRow w.heap.size 62 2 vJ' J'.length (ps J')) : SF w (W.setCell ⟨A, j, none⟩ u) N G A K D E n rk rc' vl vj vi vL' vJ' ll lj li L' J' := by
  have ha := h.a
  refine ⟨(Rt.other_setCell (block_ne h.n ha (by decide)) _ _).trans h.n, (Rt.other_setCell (block_ne h.m ha (by decide)) _ _).trans h.m, ?_, h.ze.elim fun u hu => ⟨u, (Rt.other_setCell (block_ne hu ha (by decide)) _ _).trans hu⟩, h.rk.elim fun cs hc => ⟨cs, hc.1, (Rt.other_setCell (block_ne hc.2 ha (by decide)) _ _).trans hc.2⟩, h.re.elim fun cs hc => ⟨cs, hc.1, (Rt.other_setCell (Ne.symm h.nE) _ _).trans hc.2⟩, ⟨own_cell h.rows.left ha (by decide) _ _, own_cell h.rows.join ha (by decide) _ _, own_cell h.rows.item ha (by decide) _ _, own_cell r1 ha (by decide) _ _, own_cell r2 ha (by decide) _ _⟩, h.bel.setCell (p := ⟨A, j, none⟩) hA _, h.nK, h.nD, h.nE, h.gK, h.gD, h.gE⟩
  have := Rt.row_setCell ha j u
  rw [hc] at this
  exact this
theorem StepA.yes {w w' : World} {t n : Tr} {L J : List Int} {vl vj vi vL vJ : Value} (h : plE t L J = 0) (hn : pnT t L J = n) (h1 : Rw w w' vl vj vi vL vJ (pnL t L J) (pnJ t L J) (pnI t L J) L (pnJ t L J)) (h4 : vl.ownBlock = none ∨ vl.ownBlock ≠ vj.ownBlock) :
    StepA w w' t L J (.returned (.tuple #[.agg (tcs n), .agg #[.int .i64 (pnP t L J), vl, vj, vi], .agg #[.int .i64 n.ep, .int .i64 n.fr, vL, vJ], .int .i64 0])) := by
  have e : oLv t L J = L := by unfold oLv; rw [if_pos h]
  refine ⟨vl, vj, vi, vL, vJ, ?_, ⟨h1.left, h1.join, h1.item, h4⟩, by rw [e]; exact h1.lv, h1.jn⟩
  unfold recA
  rw [hn, h]
theorem grown_none {W W' : World} (hg : W.grownBy W' none) : Below W.heap.size W W' := ⟨hg.os, hg.tape, hg.output, hg.size, fun k hk => hg.block k hk (by simp)⟩
set_option maxRecDepth 100000 in
set_option maxHeartbeats 2000000 in
theorem step_any (t : Tr) (aL aJ : Option Addr) (cL cJ : Nat) (L J : List Int) (w : World) (hTb : Tb w) (lL : L.length < 1152921504606846976) (lJ : J.length < 1152921504606846976) (hL : RdI w aL L) (hJ : RdI w aJ J) :
    Calls Tryz.prog 20 #[.agg (tcs t), .agg #[.slice aL L.length cL, .slice aJ J.length cJ] ] w fun e w' => StepA w w' t L J e ∧ Below w.heap.size w w' := by
  have hX := SX.new w t aL aJ L.length J.length cL cJ
  unfold rkz rz at hX
  obtain ⟨ct, hct⟩ : ∃ c, tcs t = c := ⟨_, rfl⟩
  have HT : Hid (tcs t = ct) := hct
  clear hct
  go_enter Tryz.func20, Tryz.ntmps20
  go_upto_region 1 with (fail)
  rw [zero236]
  generalize ((((w.alloc (.cells (tcs t) 31)).alloc (.cells #[.slice aL L.length cL, .slice aJ J.length cJ] 34)).alloc (.cells (tcs (tz 0)) 31)).alloc (.cells #[.int .i64 0, .slice none 0 0, .slice none 0 0, .slice none 0 0] 45)).alloc (.cells #[.int .i64 0, .int .i64 0, .slice none 0 0, .slice none 0 0] 38) = w1 at *
  rw [HT.out]
  obtain ⟨E, hE⟩ : ∃ D, w.heap.size + 4 = D := ⟨_, rfl⟩
  obtain ⟨D, hD⟩ : ∃ D, w.heap.size + 3 = D := ⟨_, rfl⟩
  obtain ⟨K, hK⟩ : ∃ D, w.heap.size + 2 = D := ⟨_, rfl⟩
  obtain ⟨C, hC⟩ : ∃ D, w.heap.size + 1 = D := ⟨_, rfl⟩
  obtain ⟨B, hB⟩ : ∃ D, w.heap.size = D := ⟨_, rfl⟩
  rw [hE, hD, hK, hC, hB] at hX ⊢
  clear hE hD hK hC hB
  have h1 := next_any t aL aJ cL cJ L J w1 (hTb.later hX.nx.tb.bel) lL lJ (hL.later hX.nx.tb.bel) (hJ.later hX.nx.tb.bel)
  unfold NextA at h1
  rw [HT.out] at h1
  obtain ⟨n, hn⟩ : ∃ n, pnT t L J = n := ⟨_, rfl⟩
  obtain ⟨cn, hcn⟩ : ∃ c, tcs n = c := ⟨_, rfl⟩
  have HC : Hid (tcs n = cn) := hcn
  have HN : Hid (pnT t L J = n) := hn
  simp only [hn, hcn] at h1
  obtain ⟨e, he⟩ : ∃ e, plE t L J = e := ⟨_, rfl⟩
  have HE : Hid (plE t L J = e) := he
  simp only [he] at h1
  clear he hn
  have hT1 := hX.nx.tb.tr
  obtain ⟨d0, d1⟩ := hX.nx.tb.bt.cells
  go_wp2_with (refine rdT hT1 HT.out _ rfl rfl rfl ?_)
  refine h1.mono ?_
  rintro r w2 ⟨⟨vl, vj, vi, rfl, hNP⟩, hb2⟩
  have hX2 := hX.later hb2
  have HW1 : Hid (w.heap.size ≤ w1.heap.size) := hX.nx.tb.bel.size
  have g1 := hNP.left
  have g2 := hNP.join
  have g3 := hNP.item
  obtain ⟨a1, k1, rfl⟩ := owns_slice g1
  obtain ⟨a2, k2, rfl⟩ := owns_slice g2
  obtain ⟨a3, k3, rfl⟩ := owns_slice g3
  have HAP : Hid (Value.ownBlock (.slice a1 (pnL t L J).length k1) = none ∨ Value.ownBlock (.slice a1 (pnL t L J).length k1) ≠ Value.ownBlock (.slice a2 (pnJ t L J).length k2)) := hNP.apart
  obtain ⟨t1, t2, W, hW, tT, tR, tB⟩ := two_boxes w2 n cn #[.int .i64 (pnP t L J), .slice a1 (pnL t L J).length k1, .slice a2 (pnJ t L J).length k2, .slice a3 (pnI t L J).length k3] hcn
  have hX3 := hX2.later tB
  have HG1 : Hid (W.ownsRow w.heap.size 62 2 (.slice a1 (pnL t L J).length k1) (pnL t L J).length (ps (pnL t L J))) := Rs.owns_wide (owns_later g1 tB) HW1.out
  have HG2 : Hid (W.ownsRow w.heap.size 62 2 (.slice a2 (pnJ t L J).length k2) (pnJ t L J).length (ps (pnJ t L J))) := Rs.owns_wide (owns_later g2 tB) HW1.out
  have HG3 : Hid (W.ownsRow w.heap.size 98 6 (.slice a3 (pnI t L J).length k3) (pnI t L J).length (isl (pnI t L J))) := Rs.owns_wide (owns_later g3 tB) HW1.out
  have HNG : Hid (w2.heap.size ≠ K ∧ w2.heap.size + 1 ≠ D) := ⟨fun h => by have := hX2.nx.ze.lt; omega, fun h => by have := (Array.getElem?_eq_some_iff.1 hX2.nx.rk).1; omega⟩
  have HEW : Hid (E < w2.heap.size) := (Array.getElem?_eq_some_iff.1 hX2.re).1
  clear h1 hX hX2 hT1 hb2 d0 d1 hNP g1 g2 g3 hcn
  go_upto_region 2 with (first | (refine stTc t1 HC.out rfl _ _ rfl rfl rfl ?_) | (refine stRw infoRk (cs := rkz) rkz_size t2 _ rfl (rk_one _ _ _ _ _ _ _ _ _ _) rfl _ _ rfl rfl rfl ?_))
  have HWS : Hid (w2.heap.size + 2 = W.heap.size) := by unfold Hid; rw [← hW]; simp [World.setRow]
  clear t1 t2 hW tB
  obtain ⟨G, hG⟩ : ∃ G, w2.heap.size + 1 = G := ⟨_, rfl⟩
  rw [hG] at tR HNG ⊢
  have HGW : Hid (G < W.heap.size ∧ E < w2.heap.size) := ⟨by have := HWS.out; omega, HEW.out⟩
  clear hG
  generalize w2.heap.size = N at *
  by_cases he0 : e = 0
  · subst he0
    have hst := plE_stp HE.out
    have hlL : L.length ≤ 64 := hst.fit.lenL
    have HOL : Hid (oLv t L J = L) := by unfold Hid oLv; rw [if_pos HE.out]
    obtain ⟨c0, c1⟩ := tT.cells
    go_upto_region 5 with (fail)
    have hA := RcAt.new W #[.int .i64 n.ep, .int .i64 n.fr, .slice none 0 0, .slice none 0 0]
    have hbA := below_alloc W (.cells #[.int .i64 n.ep, .int .i64 n.fr, .slice none 0 0, .slice none 0 0] 38)
    have hX4 := hX3.later hbA
    have tT4 := tT.later hbA
    have tR4 := RkLater tR hbA
    have HG1' : Hid _ := owns_later HG1.out hbA
    have HG2' : Hid _ := owns_later HG2.out hbA
    have HG3' : Hid _ := owns_later HG3.out hbA
    have HAE : Hid (W.heap.size ≠ E) := fun h => by have := (Array.getElem?_eq_some_iff.1 hX3.re).1; omega
    clear hX3 tT tR HG1 HG2 HG3 c0 c1 hbA
    generalize hwA : W.alloc (.cells #[.int .i64 n.ep, .int .i64 n.fr, .slice none 0 0, .slice none 0 0] 38) = wA at *
    clear hwA
    generalize W.heap.size = A at *
    obtain ⟨r0, r1, r2, r3⟩ := hA.cells
    obtain ⟨d0, d1⟩ := hX4.nx.tb.bt.cells
    have hrL := hL.later hX4.nx.tb.bel
    have hszA : w.heap.size ≤ wA.heap.size := hX4.nx.tb.bel.size
    have hSF : SF w wA N G A K D E n #[.int .i64 (pnP t L J), .slice a1 (pnL t L J).length k1, .slice a2 (pnJ t L J).length k2, .slice a3 (pnI t L J).length k3] #[.int .i64 n.ep, .int .i64 n.fr, .slice none 0 0, .slice none 0 0] (.slice a1 (pnL t L J).length k1) (.slice a2 (pnJ t L J).length k2) (.slice a3 (pnI t L J).length k3) (.slice none 0 0) (.slice none 0 0) (pnL t L J) (pnJ t L J) (pnI t L J) [] [] :=
      ⟨tT4, tR4, hA, ⟨_, hX4.nx.ze⟩, ⟨rkz, rfl, hX4.nx.rk⟩, ⟨rz, rfl, hX4.re⟩, ⟨HG1'.out, HG2'.out, HG3'.out, World.ownsRow_nil _ _ _ _, World.ownsRow_nil _ _ _ _⟩, hX4.nx.tb.bel, HNG.out.1, HNG.out.2, HAE.out, hX4.nx.gK, hX4.nx.gD, hX4.gE⟩
    have HGA : Hid (w.heap.size ≤ A) := by have h1 := HGW.out; have h2 := hX4.gE; have h3 := HWS.out; unfold Hid; omega
    have HLJ : Hid ((pnJ t L J).length ≤ 64) := by
      unfold Hid pnJ
      rw [if_pos HE.out]
      unfold jns
      rw [Rs.adl_length]
      exact hst.fit.lenJ
    have HSF : Hid _ := hSF
    have hrL8 : L.length * 8 ≤ 140737488355328 := by omega
    have hrLm : 0 + L.length ≤ maxLen := by unfold maxLen; omega
    clear hst hlL lL lJ hSF hA hX4 tT4 tR4 HG1' HG2' HG3' HNG HAE HGW HWS HEW
    have HZ : Hid (∀ W', wA.grownBy W' (Value.slice none 0 0).ownBlock → W'.cell? ⟨A, 2, none⟩ = some (.slice none 0 0) ∧ W'.frozen? ⟨A, 2, none⟩ = false) := fun W' hg => by
      have h := (HSF.out.later (grown_none hg)).a
      exact ⟨h.cells.2.2.1, Rt.row_frozen h 2⟩
    go_upto_region 6 with (at_builtin; (refine Rs.append_rd rfl _ _ rfl wA.heap.size (.slice none 0 0) 0 [] rfl (World.ownsRow_nil _ _ _ _) aL cL L rfl hrL hrLm (by rw [Nat.zero_add]; exact hrL8) (Nat.le_refl _) ?_); intro v5 w5 hown5 hg5; rw [Nat.zero_add, List.nil_append] at hown5; obtain ⟨a5, k5, rfl⟩ := owns_slice hown5; have HO5 : Hid (w5.ownsRow wA.heap.size 3 1 (.slice a5 L.length k5) L.length (i64s L)) := hown5; have HG5 : Hid (wA.grownBy w5 (Value.slice none 0 0).ownBlock) := hg5; obtain ⟨z2, zf⟩ := HZ.out w5 hg5; clear hown5 hg5)
    have hb5 : Below wA.heap.size wA w5 := grown_none HG5.out
    have hS5 := HSF.out.later hb5
    have HO6 : Hid (w5.ownsRow w.heap.size 3 1 (.slice a5 L.length k5) L.length (i64s L)) := Rs.owns_wide HO5.out hszA
    have hSF6 := hS5.setA HGA.out 2 (.slice a5 L.length k5) rfl HO6.out hS5.rows.jn
    clear HSF hS5 HO5 HO6 z2 zf hrL d0 d1 hb5 HG5 HZ r0 r1 r2 r3
    generalize w5.setCell ⟨A, 2, none⟩ (.slice a5 L.length k5) = w6 at *
    obtain ⟨r0, r1, r2, r3⟩ := hSF6.a.cells
    obtain ⟨q0, q1, q2, q3⟩ := RkCells hSF6.m
    have hrJ := rdP_of hSF6.rows.join
    have HSZ6 : Hid (w.heap.size ≤ w6.heap.size) := hSF6.bel.size
    have HSF : Hid _ := hSF6
    clear hSF6
    have hlj := HLJ.out
    have HZ : Hid (∀ W', w6.grownBy W' (Value.slice none 0 0).ownBlock → W'.cell? ⟨A, 3, none⟩ = some (.slice none 0 0) ∧ W'.frozen? ⟨A, 3, none⟩ = false) := fun W' hg => by
      have h := (HSF.out.later (grown_none hg)).a
      exact ⟨h.cells.2.2.2, Rt.row_frozen h 3⟩
    go_upto_region 7 with (at_builtin; (refine append_rdP rfl _ _ rfl w6.heap.size (.slice none 0 0) 0 [] rfl (World.ownsRow_nil _ _ _ _) a2 k2 (pnJ t L J) rfl hrJ (by unfold maxLen; omega) (by omega) (Nat.le_refl _) ?_); intro v7 w7 hown5 hg5; rw [Nat.zero_add, List.nil_append] at hown5; obtain ⟨a7, k7, rfl⟩ := owns_slice hown5; have HO5 : Hid (w7.ownsRow w6.heap.size 62 2 (.slice a7 (pnJ t L J).length k7) (pnJ t L J).length (ps (pnJ t L J))) := hown5; have HG5 : Hid (w6.grownBy w7 (Value.slice none 0 0).ownBlock) := hg5; obtain ⟨z2, zf⟩ := HZ.out w7 hg5; clear hown5 hg5)
    have hb5 : Below w6.heap.size w6 w7 := grown_none HG5.out
    have hS5 := HSF.out.later hb5
    have HO6 : Hid (w7.ownsRow w.heap.size 62 2 (.slice a7 (pnJ t L J).length k7) (pnJ t L J).length (ps (pnJ t L J))) := Rs.owns_wide HO5.out HSZ6.out
    have hSF8 := hS5.setA HGA.out 3 (.slice a7 (pnJ t L J).length k7) rfl hS5.rows.lv HO6.out
    clear HSF hS5 HO5 z2 zf hrJ q0 q1 q2 q3 hb5 HG5 HZ r0 r1 r2 r3
    generalize w7.setCell ⟨A, 3, none⟩ (.slice a7 (pnJ t L J).length k7) = w8 at *
    obtain ⟨rk, hrk⟩ : ∃ c : Array Value, #[.int .i64 (pnP t L J), .slice a1 (pnL t L J).length k1, .slice a2 (pnJ t L J).length k2, .slice a3 (pnI t L J).length k3] = c := ⟨_, rfl⟩
    have hS0 := hSF8.later (drew_below w8)
    rw [hrk] at hS0
    have HRKS : Hid (rk.size = 4) := by rw [← hrk]; rfl
    have HRK1 : Hid (rk.all (·.oneCell') = true) := by unfold Hid; rw [← hrk]; exact rk_one _ _ _ _ _ _ _ _ _ _
    have HRK : Hid (#[.int .i64 (pnP t L J), .slice a1 (pnL t L J).length k1, .slice a2 (pnJ t L J).length k2, .slice a3 (pnI t L J).length k3] = rk) := hrk
    clear hSF8 hrk HO6
    refine wp_region_held_drew (S := fun X => SF w X N G A K D E n rk #[.int .i64 n.ep, .int .i64 n.fr, .slice a5 L.length k5, .slice a7 (pnJ t L J).length k7] (.slice a1 (pnL t L J).length k1) (.slice a2 (pnJ t L J).length k2) (.slice a3 (pnI t L J).length k3) (.slice a5 L.length k5) (.slice a7 (pnJ t L J).length k7) (pnL t L J) (pnJ t L J) (pnI t L J) L (pnJ t L J)) (by kernel_rfl) hS0 (fun hHeld => ?_)
    refine wpAnyH_take (i := 0) (oi := { dst := some 42, op := Op.load 31 (Operand.tmp 8), type := _, pos := _, after := _, guard := none }) (v := .agg cn) rfl (by kernel_rfl) (by kernel_rfl) (by kernel_rfl) (fun _ _ _ h => h) (Or.inl ⟨by rfl, fun w hSw => ld_exec (HC.out ▸ hSw.n.whole) rfl rfl⟩) (by assumption) ?_
    simp only [Act.put, List.setIfInBounds_toArray, List.set_cons_zero, List.set_cons_succ]
    refine wpAnyH_take (i := 1) (oi := { dst := some 43, op := Op.load 45 (Operand.tmp 9), type := _, pos := _, after := _, guard := none }) (v := .agg rk) rfl (by kernel_rfl) (by kernel_rfl) (by kernel_rfl) (fun _ _ _ h => h) (Or.inl ⟨by rfl, fun w hSw => ld_exec (RkW hSw.m HRKS.out) rfl rfl⟩) (by assumption) ?_
    simp only [Act.put, List.setIfInBounds_toArray, List.set_cons_zero, List.set_cons_succ]
    refine wpAnyH_take (i := 2) (oi := { dst := some 44, op := Op.load 38 (Operand.tmp 11), type := _, pos := _, after := _, guard := none }) (v := .agg #[.int .i64 n.ep, .int .i64 n.fr, .slice a5 L.length k5, .slice a7 (pnJ t L J).length k7]) rfl (by kernel_rfl) (by kernel_rfl) (by kernel_rfl) (fun _ _ _ h => h) (Or.inl ⟨by rfl, fun w hSw => ld_exec (RcW hSw.a rfl) rfl rfl⟩) (by assumption) ?_
    simp only [Act.put, List.setIfInBounds_toArray, List.set_cons_zero, List.set_cons_succ]
    refine wpAnyH_ready (rs := [3]) (by kernel_rfl) (by simp) ?_
    refine AllReadyH.cons rfl (fun Kc hK => ?_) AllReadyH.nil
    obtain ⟨u, hu⟩ := hHeld.ze
    obtain ⟨hN3, hT3⟩ := hHeld.setT HC.out
    refine if_wp rfl (wp_stRow0 31 _ _ rfl K cn rfl rfl 31 (tcs u) hu (by rw [← HC.out, tcs_size]; exact infoT) (by rw [← HC.out, tcs_size, tcs_size]) (by rw [← HC.out]; exact tcs_one n) rfl ?_)
    refine hK.out _ _ hN3 (fun hHeld2 => ?_)
    clear hHeld hu hN3
    clear hK Kc
    try simp only [Act.put, List.setIfInBounds_toArray, List.set_cons_zero, List.set_cons_succ]
    refine wpAnyH_ready (rs := [4]) (by kernel_rfl) (by simp) ?_
    refine AllReadyH.cons rfl (fun Kc hK => ?_) AllReadyH.nil
    obtain ⟨cs4, hc4, hRk⟩ := hHeld2.rk
    obtain ⟨hN4, hT4, hR4⟩ := hHeld2.setD (ds := rk) hT3 hRk HRKS.out
    refine if_wp rfl (wp_stRow0 45 _ _ rfl D rk rfl rfl 45 cs4 hRk (by rw [HRKS.out]; exact infoRk) (by rw [hc4, HRKS.out]) HRK1.out rfl ?_)
    refine hK.out _ _ hN4 (fun hHeld3 => ?_)
    clear hHeld2 hRk hN4
    clear hK Kc
    try simp only [Act.put, List.setIfInBounds_toArray, List.set_cons_zero, List.set_cons_succ]
    refine wpAnyH_ready (rs := [5]) (by kernel_rfl) (by simp) ?_
    refine AllReadyH.cons rfl (fun Kc hK => ?_) AllReadyH.nil
    obtain ⟨cs5, hc5, hRe⟩ := hHeld3.re
    obtain ⟨hN5, hT5, hR5, hE5⟩ := hHeld3.setE (ds := #[.int .i64 n.ep, .int .i64 n.fr, .slice a5 L.length k5, .slice a7 (pnJ t L J).length k7]) hT4 hR4 hRe rfl
    refine if_wp rfl (wp_stRow0 38 _ _ rfl E _ rfl rfl 38 cs5 hRe infoRc hc5 (rc_one _ _ _ _ _ _ _ _) rfl ?_)
    refine hK.out _ _ hN5 (fun hHeld4 => ?_)
    clear hHeld3 hRe hN5
    clear hK Kc
    try simp only [Act.put, List.setIfInBounds_toArray, List.set_cons_zero, List.set_cons_succ]
    refine wpAnyH_take (i := 6) (oi := { dst := some 7, op := Op.assign (Operand.const (Value.int IntKind.i64 0)), type := _, pos := _, after := _, guard := none }) (v := .int .i64 0) rfl (by kernel_rfl) (by kernel_rfl) (by kernel_rfl) (fun _ _ _ h => h) (Or.inl ⟨by rfl, fun w hSw => by (try dsimp only at hSw); go_simp⟩) (by assumption) ?_
    simp only [Act.put, List.setIfInBounds_toArray, List.set_cons_zero, List.set_cons_succ]
    refine wpAnyH_done (by kernel_rfl) ?_ _
    obtain ⟨w9, hw9⟩ : ∃ W9, (((w8.drew.setRow K cn).setRow D rk).setRow E #[.int .i64 n.ep, .int .i64 n.fr, .slice a5 L.length k5, .slice a7 (pnJ t L J).length k7]) = W9 := ⟨_, rfl⟩
    rw [hw9] at hT5 hR5 hE5 hHeld4 ⊢
    clear hw9 hT3 hT4 hR4
    go_wp2_with fail
    refine bodyPost_ret (results_st (p := 4) (q := 5) (r := 6) (t := 7) rfl _ _ K D E n rk _ rfl rfl rfl hT5 hR5 HRKS.out hE5 rfl) rfl ?_
    refine ⟨?_, hHeld4.bel⟩
    rw [← HRK.out]
    exact StepA.yes HE.out HN.out hHeld4.rows HAP.out
  · have hd2 : (e != 0) = true := by simpa using he0
    have HNE : Hid (e ≠ 0) := he0
    have hX := hX3.nx
    have hZ := hX3.nx.ze
    obtain ⟨cz, hcz⟩ : ∃ c, tcs (tz 0) = c := ⟨_, rfl⟩
    have HZ : Hid (tcs (tz 0) = cz) := hcz
    have hZ2 := hX3.nx.setK (tz 0) hcz
    have HK3 : Hid (TrAt (((W.setRow K cz).setRow D rkz).setRow E rz) K (tz 0) ∧ RkAt (((W.setRow K cz).setRow D rkz).setRow E rz) D rkz) := ⟨(Rt.row_other (block_ne hX3.nx.ze hX3.re (by decide)) _).trans ((Rt.row_other (block_ne hZ2.1 hZ2.2.1 (by decide)) _).trans hZ2.1), (Rt.row_other (block_ne hX3.nx.rk hX3.re (by decide)) _).trans (Rt.heap_setRow_same hZ2.2.1 _)⟩
    have hZ3 : RcAt ((W.setRow K cz).setRow D rkz) E rz := (Rt.row_other (block_ne hX3.re hX3.nx.rk (by decide)) _).trans ((Rt.row_other (block_ne hX3.re hX3.nx.ze (by decide)) _).trans hX3.re)
    have HGE : Hid (w.heap.size ≤ E) := hX3.gE
    clear hcz he0 hX3 tT tR HG1 HG2 HG3
    go_wp2_with (first | (refine bzc HZ.out rfl rfl ?_) | (refine stTc hZ HZ.out rfl _ _ rfl rfl rfl ?_) | (refine stRw infoRk (cs := rkz) rkz_size hZ2.2.1 rkz rkz_size rkz_one rfl _ _ rfl rfl rfl ?_) | (refine stRw infoRc (cs := rz) rfl hZ3 rz rfl rz_one rfl _ _ rfl rfl rfl ?_))
    refine bodyPost_ret (results_st (p := 4) (q := 5) (r := 6) (t := 7) rfl _ _ K D E (tz 0) rkz rz rfl rfl rfl HK3.out.1 HK3.out.2 rfl (Rt.heap_setRow_same hZ3 _) rfl) rfl ?_
    exact ⟨StepA.no HE.out HNE.out, Rt.setRow_below HGE.out (Rt.setRow_below hX.gD hZ2.2.2 _) _⟩
end Go.Proofs.YteocfmimgoocnaaGreatDoor.Rc
/- Contract: Of. -/
namespace Go.Proofs.YteocfmimgoocnaaGreatDoor.Rc
open Go.RowKit Go.Maps Go.Great
open Rs (RdI RdS ps Tb i64s owns_later owns_slice owns_type)
set_option linter.unusedVariables false
set_option linter.unusedSimpArgs false

theorem three_boxes (w : World) (u : Tr) (c cs ds : Array Value) (hc : tcs u = c) :
    TrAt (((w.alloc (.cells Tryz.zeroCells31 31)).alloc (.cells #[.int .i64 0, .slice none 0 0, .slice none 0 0, .slice none 0 0] 45)).alloc (.cells #[.int .i64 0, .int .i64 0, .slice none 0 0, .slice none 0 0] 38)) w.heap.size (tz 0)
    ∧ RkAt ((((w.alloc (.cells Tryz.zeroCells31 31)).alloc (.cells #[.int .i64 0, .slice none 0 0, .slice none 0 0, .slice none 0 0] 45)).alloc (.cells #[.int .i64 0, .int .i64 0, .slice none 0 0, .slice none 0 0] 38)).setRow w.heap.size c) (w.heap.size + 1) rkz
    ∧ RcAt (((((w.alloc (.cells Tryz.zeroCells31 31)).alloc (.cells #[.int .i64 0, .slice none 0 0, .slice none 0 0, .slice none 0 0] 45)).alloc (.cells #[.int .i64 0, .int .i64 0, .slice none 0 0, .slice none 0 0] 38)).setRow w.heap.size c).setRow (w.heap.size + 1) cs) (w.heap.size + 2) rz
    ∧ ∃ W, (((((w.alloc (.cells Tryz.zeroCells31 31)).alloc (.cells #[.int .i64 0, .slice none 0 0, .slice none 0 0, .slice none 0 0] 45)).alloc (.cells #[.int .i64 0, .int .i64 0, .slice none 0 0, .slice none 0 0] 38)).setRow w.heap.size c).setRow (w.heap.size + 1) cs).setRow (w.heap.size + 2) ds = W ∧ TrAt W w.heap.size u ∧ RkAt W (w.heap.size + 1) cs ∧ RcAt W (w.heap.size + 2) ds ∧ Below w.heap.size w W := by
  rw [alloc_trz]
  have a1 := TrAt.new w (tz 0)
  have b1 := alloc_tr w (tz 0)
  have s1 : (w.alloc (.cells (tcs (tz 0)) 31)).heap.size = w.heap.size + 1 := World.size_alloc _ _
  generalize w.alloc (.cells (tcs (tz 0)) 31) = w1 at *
  have a2 := heap_alloc_last w1 (.cells #[.int .i64 0, .slice none 0 0, .slice none 0 0, .slice none 0 0] 45)
  have b2 := below_alloc w1 (.cells #[.int .i64 0, .slice none 0 0, .slice none 0 0, .slice none 0 0] 45)
  have s2 : (w1.alloc (.cells #[.int .i64 0, .slice none 0 0, .slice none 0 0, .slice none 0 0] 45)).heap.size = w1.heap.size + 1 := World.size_alloc _ _
  rw [s1] at a2
  generalize w1.alloc (.cells #[.int .i64 0, .slice none 0 0, .slice none 0 0, .slice none 0 0] 45) = w2 at *
  have a3 := heap_alloc_last w2 (.cells #[.int .i64 0, .int .i64 0, .slice none 0 0, .slice none 0 0] 38)
  have b3 := below_alloc w2 (.cells #[.int .i64 0, .int .i64 0, .slice none 0 0, .slice none 0 0] 38)
  rw [show w2.heap.size = w.heap.size + 2 by omega] at a3
  have s3 : (w2.alloc (.cells #[.int .i64 0, .int .i64 0, .slice none 0 0, .slice none 0 0] 38)).heap.size = w2.heap.size + 1 := World.size_alloc _ _
  have t1 := (a1.later b2).later b3
  have t2 : RkAt _ (w.heap.size + 1) rkz := RkLater a2 b3
  have t3 : RcAt _ (w.heap.size + 2) rz := a3
  have hb : Below w.heap.size w (w2.alloc (.cells #[.int .i64 0, .int .i64 0, .slice none 0 0, .slice none 0 0] 38)) := (b1.trans (b2.mono (by omega))).trans (b3.mono (by omega))
  clear a1 a2 a3 b1 b2 b3
  generalize w2.alloc (.cells #[.int .i64 0, .int .i64 0, .slice none 0 0, .slice none 0 0] 38) = W at *
  subst hc
  have h2 : RkAt (W.setRow w.heap.size (tcs u)) (w.heap.size + 1) rkz := (Rt.row_other (by omega) _).trans t2
  have h3 : RcAt ((W.setRow w.heap.size (tcs u)).setRow (w.heap.size + 1) cs) (w.heap.size + 2) rz := (Rt.row_other (by omega) _).trans ((Rt.row_other (by omega) _).trans t3)
  refine ⟨t1, h2, h3, _, rfl, ?_, ?_, Rt.heap_setRow_same h3 _, Rt.setRow_below (by omega) (Rt.setRow_below (by omega) (Rt.setRow_below (by omega) hb _) _) _⟩
  · exact (Rt.row_other (by omega) _).trans ((Rt.row_other (by omega) _).trans (t1.row u))
  · exact (Rt.row_other (by omega) _).trans (Rt.heap_setRow_same h2 _)
def OfA (w w' : World) (t : Tr) (L J : List Int) (e : Ending) : Prop := ∃ vL vJ, e = .returned (.tuple #[.agg (recA t L J vL vJ), .int .i64 (plE t L J)]) ∧ RecP w w' t L J vL vJ
theorem recA_one (p q : Int) (a b : Option Addr) (l m i j : Nat) : (#[.int .i64 p, .int .i64 q, .slice a l i, .slice b m j] : Array Value).all (·.oneCell') = true := rc_one p q a b l m i j
set_option maxRecDepth 100000 in
set_option maxHeartbeats 2000000 in
theorem of_any (t : Tr) (aL aJ : Option Addr) (cL cJ : Nat) (L J : List Int) (w : World) (hTb : Tb w) (lL : L.length < 1152921504606846976) (lJ : J.length < 1152921504606846976) (hL : RdI w aL L) (hJ : RdI w aJ J) :
    Calls Tryz.prog 8 #[.agg (tcs t), .agg #[.slice aL L.length cL, .slice aJ J.length cJ] ] w fun e w' => OfA w w' t L J e ∧ Below w.heap.size w w' := by
  have hX := (TB.new w t aL aJ L.length J.length cL cJ).later (below_alloc _ (.cells #[.int .i64 0, .int .i64 0, .slice none 0 0, .slice none 0 0] 38))
  have hE0 := RcAt.new ((w.alloc (.cells (tcs t) 31)).alloc (.cells #[.slice aL L.length cL, .slice aJ J.length cJ] 34)) #[.int .i64 0, .int .i64 0, .slice none 0 0, .slice none 0 0]
  rw [World.size_alloc, World.size_alloc] at hE0
  obtain ⟨ct, hct⟩ : ∃ c, tcs t = c := ⟨_, rfl⟩
  have HT : Hid (tcs t = ct) := hct
  clear hct
  go_enter Tryz.func8, Tryz.ntmps8
  go_upto_region 1 with (fail)
  generalize ((w.alloc (.cells (tcs t) 31)).alloc (.cells #[.slice aL L.length cL, .slice aJ J.length cJ] 34)).alloc (.cells #[.int .i64 0, .int .i64 0, .slice none 0 0, .slice none 0 0] 38) = w1 at *
  rw [HT.out]
  obtain ⟨E, hE⟩ : ∃ D, w.heap.size + 1 + 1 = D := ⟨_, rfl⟩
  obtain ⟨C, hC⟩ : ∃ D, w.heap.size + 1 = D := ⟨_, rfl⟩
  obtain ⟨B, hB⟩ : ∃ D, w.heap.size = D := ⟨_, rfl⟩
  try rw [show w.heap.size + 2 = w.heap.size + 1 + 1 from rfl]
  have HGE : Hid (w.heap.size ≤ E) := by unfold Hid; omega
  rw [hE] at hE0 ⊢
  rw [hC, hB] at hX ⊢
  clear hE hC hB
  have h1 := step_any t aL aJ cL cJ L J w1 (hTb.later hX.bel) lL lJ (hL.later hX.bel) (hJ.later hX.bel)
  unfold StepA at h1
  rw [HT.out] at h1
  obtain ⟨n, hn⟩ : ∃ n, pnT t L J = n := ⟨_, rfl⟩
  obtain ⟨cn, hcn⟩ : ∃ c, tcs n = c := ⟨_, rfl⟩
  have HC : Hid (tcs n = cn) := hcn
  unfold recA at h1
  simp only [hn, hcn] at h1
  obtain ⟨e, he⟩ : ∃ e, plE t L J = e := ⟨_, rfl⟩
  have HE : Hid (plE t L J = e) := he
  have HN : Hid (pnT t L J = n) := hn
  simp only [he] at h1
  clear he hn
  have hT1 := hX.tr
  obtain ⟨d0, d1⟩ := hX.bt.cells
  go_wp2_with (refine rdT hT1 HT.out _ rfl rfl rfl ?_)
  refine h1.mono ?_
  rintro r w2 ⟨⟨vl, vj, vi, vL, vJ, rfl, hNP, hRP⟩, hb2⟩
  have HW1 : Hid (w.heap.size ≤ w1.heap.size) := hX.bel.size
  have HB2 : Hid (Below w.heap.size w w2) := hX.bel.trans (hb2.mono hX.bel.size)
  have hE2 := hE0.later hb2
  obtain ⟨a1, k1, rfl⟩ := owns_slice hNP.left
  obtain ⟨a2, k2, rfl⟩ := owns_slice hNP.join
  obtain ⟨a3, k3, rfl⟩ := owns_slice hNP.item
  obtain ⟨a4, k4, rfl⟩ := owns_slice hRP.lv
  obtain ⟨a5, k5, rfl⟩ := owns_slice hRP.jn
  obtain ⟨t1, t2, t3, W, hW, tT, tR, tC, tB⟩ := three_boxes w2 n cn #[.int .i64 (pnP t L J), .slice a1 (pnL t L J).length k1, .slice a2 (pnJ t L J).length k2, .slice a3 (pnI t L J).length k3] #[.int .i64 n.ep, .int .i64 n.fr, .slice a4 (oLv t L J).length k4, .slice a5 (pnJ t L J).length k5] hcn
  have hE3 := hE2.later tB
  have HBW : Hid (Below w.heap.size w W) := HB2.out.trans (tB.mono HB2.out.size)
  have HLV : Hid (W.ownsRow w.heap.size 3 1 (.slice a4 (oLv t L J).length k4) (oLv t L J).length (i64s (oLv t L J))) := Rs.owns_wide (owns_later hRP.lv tB) HW1.out
  have HJN : Hid (W.ownsRow w.heap.size 62 2 (.slice a5 (pnJ t L J).length k5) (pnJ t L J).length (ps (pnJ t L J))) := Rs.owns_wide (owns_later hRP.jn tB) HW1.out
  clear h1 hX hT1 hb2 d0 d1 hNP hRP hcn tB hE0 hE2
  go_upto_region 2 with (first | (show wpList _ _ _ ({ dst := _, op := Op.store 31 _ _, type := _, pos := _, after := _, guard := _ } :: _) _ _; refine stTc t1 HC.out rfl _ _ rfl rfl rfl ?_) | (show wpList _ _ _ ({ dst := _, op := Op.store 45 _ _, type := _, pos := _, after := _, guard := _ } :: _) _ _; refine stRw infoRk (cs := rkz) rkz_size t2 _ rfl (rk_one _ _ _ _ _ _ _ _ _ _) rfl _ _ rfl rfl rfl ?_) | (show wpList _ _ _ ({ dst := _, op := Op.store 38 _ _, type := _, pos := _, after := _, guard := _ } :: _) _ _; refine stRw infoRc (cs := rz) rfl t3 _ rfl (rc_one _ _ _ _ _ _ _ _) rfl _ _ rfl rfl rfl ?_))
  clear t1 t2 t3 hW
  obtain ⟨A, hA⟩ : ∃ A, w2.heap.size + 2 = A := ⟨_, rfl⟩
  rw [hA] at tC ⊢
  clear hA
  obtain ⟨r0, r1, r2, r3⟩ := tC.cells
  go_wp2_with (refine stRw infoRc (cs := rz) rfl hE3 #[.int .i64 n.ep, .int .i64 n.fr, .slice a4 (oLv t L J).length k4, .slice a5 (pnJ t L J).length k5] rfl (rc_one _ _ _ _ _ _ _ _) rfl _ _ rfl rfl rfl ?_)
  refine bodyPost_ret (results_rc (p := 4) (t := 5) rfl _ _ E _ rfl (Rt.heap_setRow_same hE3 _) rfl) rfl ?_
  refine ⟨⟨_, _, ?_, owns_type HLV.out hE3 (by decide) _, owns_type HJN.out hE3 (by decide) _⟩, Rt.setRow_below HGE.out HBW.out _⟩
  unfold recA
  rw [HN.out, HE.out]
  rfl
end Go.Proofs.YteocfmimgoocnaaGreatDoor.Rc
/- Contract: batchOf. -/
namespace Go.Proofs.YteocfmimgoocnaaGreatDoor.Rc
open Go.RowKit Go.Maps Go.Great
open Rs (RdI cell_later ps Tb i64s owns_later owns_slice owns_type infoInt)
set_option linter.unusedVariables false
set_option linter.unusedSimpArgs false

/- The people of a list of seats. -/
def ws (J : List (Int × Int)) : List Int := J.map (·.1)
@[simp] theorem ws_length (J : List (Int × Int)) : (ws J).length = J.length := by simp [ws]
theorem ws_take {J : List (Int × Int)} {k : Nat} (h : k < J.length) : ws (J.take (k + 1)) = ws (J.take k) ++ [(J.getD k (0, 0)).1] := by rw [take_nx (0, 0) h]; simp [ws]
def BxB (w : World) (B : Nat) (v0 v1 : Value) : Prop := w.heap[B]? = some (.cells #[v0, v1] 34 (0, 0))
theorem BxB.cells {w : World} {B : Nat} {v0 v1 : Value} (h : BxB w B v0 v1) : w.cell? ⟨B, 0, none⟩ = some v0 ∧ w.cell? ⟨B, 1, none⟩ = some v1 := ⟨cell_of_row w B 0 _ _ _ h, cell_of_row w B 1 _ _ _ h⟩
theorem BxB.later {w w' : World} {B : Nat} {v0 v1 : Value} (h : BxB w B v0 v1) (hb : Below w.heap.size w w') : BxB w' B v0 v1 := (hb.block B (Array.getElem?_eq_some_iff.1 h).1).trans h
theorem infoBt : (Tryz.prog.info? 34).map (·.size) = some 2 := by kernel_rfl
theorem results_bt {fn : Func} {p : Tmp} (hf : fn.results = #[.cell p 34 ]) (tmps : Array Value) (W : World) (B : Nat) (v0 v1 : Value) (hp : tmps[p]? = some (.pointer (some ⟨B, 0, none⟩))) (hb : BxB W B v0 v1) :
    (results fn tmps).run Tryz.prog W = .ok (.agg #[v0, v1]) W := by
  have h := run_loadVar_row W B _ 34 _ _ _ hb Tryz.underlying34 rfl infoBt
  simp [results, hf, hp, asAddr, h]
theorem bt_one (a b : Option Addr) (l m i j : Nat) : (#[.slice a l i, .slice b m j] : Array Value).all (·.oneCell') = true := by simp [Value.oneCell']
/- The batch that is gathered: its box A; the record's box C; R: any other place. -/
structure BG (w W : World) (C A n0 : Nat) (rc : Array Value) (v0 v : Value) (l : List Int) : Prop where
  rc : RcAt W C rc
  bt : BxB W A v0 v
  row : W.ownsRow n0 3 1 v l.length (i64s l)
  bel : Below w.heap.size w W
  lt : C < n0 ∧ A < n0
  le : w.heap.size ≤ A
  sz : n0 ≤ W.heap.size
theorem BG.later {w W W' : World} {C A n0 : Nat} {rc : Array Value} {v0 v : Value} {l : List Int} (h : BG w W C A n0 rc v0 v l) (hb : Below W.heap.size W W') : BG w W' C A n0 rc v0 v l :=
  ⟨h.rc.later hb, h.bt.later hb, owns_later h.row hb, h.bel.trans (hb.mono h.bel.size), h.lt, h.le, Nat.le_trans h.sz hb.size⟩
theorem BG.app {w W W' : World} {C A n0 : Nat} {rc : Array Value} {v0 v v' : Value} {l : List Int} {y : Int} (h : BG w W C A n0 rc v0 v l) (hown : W'.ownsRow n0 3 1 v' (l ++ [y]).length (i64s (l ++ [y]))) (hg : W.grownBy W' v.ownBlock) (X : Nat → Prop) (hX : ∀ k, X k → k < n0) :
    BxB W' A v0 v ∧ BG w (W'.setCell ⟨A, 1, none⟩ v') C A n0 rc v0 v' (l ++ [y]) ∧ ∀ k, X k → k ≠ A → (W'.setCell ⟨A, 1, none⟩ v').heap[k]? = W.heap[k]? := by
  obtain ⟨l1, l2⟩ := h.lt
  have hle := h.le
  have blk : ∀ k, k < n0 → W'.heap[k]? = W.heap[k]? := fun k hk => hg.block k (by have := h.sz; omega) (Rs.row_far h.row hk)
  have hbt : BxB W' A v0 v := (blk _ l2).trans h.bt
  have far : ∀ k, n0 ≤ k → k < W'.heap.size → (W'.setCell ⟨A, 1, none⟩ v').heap[k]? = W'.heap[k]? := fun k hk0 hk1 => Rt.other_setCell (by omega) _ _
  refine ⟨hbt, ⟨(Rt.other_setCell (block_ne h.rc h.bt (by decide)) _ _).trans ((blk _ l1).trans h.rc), Rt.row_setCell hbt 1 v', Rs.owns_block hown far, ?_, h.lt, h.le, ?_⟩, fun k hk hne => (Rt.other_setCell hne _ _).trans (blk k (hX k hk))⟩
  · refine Below.setCell (p := ⟨A, 1, none⟩) ?_ hle _
    exact Below.grown h.bel hg h.bel.size fun j hj => by
      rcases Nat.lt_or_ge j n0 with hlt | hge
      · exact absurd hj.symm (Rs.row_far h.row hlt)
      · omega
  · have := hg.size; have := h.sz; simp; omega
set_option maxRecDepth 100000 in
set_option maxHeartbeats 2000000 in
theorem batchOf_any (e f : Int) (aL aJ : Option Addr) (cL cJ : Nat) (L : List Int) (J : List (Int × Int)) (w : World) (rJ : RdP w aJ J) (lJ : J.length * 16 ≤ 140737488351232) :
    Calls Tryz.prog 22 #[.agg #[.int .i64 e, .int .i64 f, .slice aL L.length cL, .slice aJ J.length cJ] ] w fun r w' => ∃ v, r = .returned (.agg #[.slice aL L.length cL, v]) ∧ w'.ownsRow w.heap.size 3 1 v J.length (i64s (ws J)) ∧ Below w.heap.size w w' := by
  obtain ⟨nL, hnl⟩ : ∃ n, L.length = n := ⟨_, rfl⟩
  obtain ⟨nJ, hnj⟩ : ∃ n, J.length = n := ⟨_, rfl⟩
  have HNJ : Hid (J.length = nJ) := hnj
  rw [hnj] at lJ
  rw [hnl, hnj]
  clear hnl hnj
  have h1 := RcAt.new w #[.int .i64 e, .int .i64 f, .slice aL nL cL, .slice aJ nJ cJ]
  have b1 := below_alloc w (.cells #[.int .i64 e, .int .i64 f, .slice aL nL cL, .slice aJ nJ cJ] 38)
  have s1 : (w.alloc (.cells #[.int .i64 e, .int .i64 f, .slice aL nL cL, .slice aJ nJ cJ] 38)).heap.size = w.heap.size + 1 := World.size_alloc _ _
  have hgen : ∃ w1, w.alloc (.cells #[.int .i64 e, .int .i64 f, .slice aL nL cL, .slice aJ nJ cJ] 38) = w1 := ⟨_, rfl⟩
  obtain ⟨w1, hw1⟩ := hgen
  rw [hw1] at h1 b1 s1
  have h2 : BxB (w1.alloc (.cells #[.slice none 0 0, .slice none 0 0] 34)) w1.heap.size (.slice none 0 0) (.slice none 0 0) := heap_alloc_last w1 _
  have b2 := below_alloc w1 (.cells #[.slice none 0 0, .slice none 0 0] 34)
  have s2 : (w1.alloc (.cells #[.slice none 0 0, .slice none 0 0] 34)).heap.size = w1.heap.size + 1 := World.size_alloc _ _
  obtain ⟨w2, hw2⟩ : ∃ w2, w1.alloc (.cells #[.slice none 0 0, .slice none 0 0] 34) = w2 := ⟨_, rfl⟩
  rw [hw2] at h2 b2 s2
  have h3 : BxB (w2.alloc (.cells #[.slice aL nL cL, .slice none 0 0] 34)) w2.heap.size (.slice aL nL cL) (.slice none 0 0) := heap_alloc_last w2 _
  have b3 := below_alloc w2 (.cells #[.slice aL nL cL, .slice none 0 0] 34)
  have s3 : (w2.alloc (.cells #[.slice aL nL cL, .slice none 0 0] 34)).heap.size = w2.heap.size + 1 := World.size_alloc _ _
  have hG : BG w (w2.alloc (.cells #[.slice aL nL cL, .slice none 0 0] 34)) w.heap.size (w.heap.size + 2) (w.heap.size + 3) #[.int .i64 e, .int .i64 f, .slice aL nL cL, .slice aJ nJ cJ] (.slice aL nL cL) (.slice none 0 0) [] :=
    ⟨(h1.later b2).later b3, by rw [show w.heap.size + 2 = w2.heap.size by omega]; exact h3, World.ownsRow_nil _ _ _ _, (b1.trans (b2.mono (by omega))).trans (b3.mono (by omega)), ⟨by omega, by omega⟩, by omega, by omega⟩
  have hR : BxB (w2.alloc (.cells #[.slice aL nL cL, .slice none 0 0] 34)) (w.heap.size + 1) (.slice none 0 0) (.slice none 0 0) := by
    have := h2.later b3
    rw [s1] at this
    exact this
  subst hw2
  subst hw1
  clear h1 b1 s1 h2 b2 s2 h3 b3 s3
  go_enter Tryz.func22, Tryz.ntmps22
  go_upto_region 2 with (fail)
  generalize ((w.alloc (.cells #[.int .i64 e, .int .i64 f, .slice aL nL cL, .slice aJ nJ cJ] 38)).alloc (.cells #[.slice none 0 0, .slice none 0 0] 34)).alloc (.cells #[.slice aL nL cL, .slice none 0 0] 34) = w3 at *
  have HLT : Hid (w.heap.size + 1 < w.heap.size + 3 ∧ w.heap.size + 1 ≠ w.heap.size + 2 ∧ w.heap.size ≤ w.heap.size + 1 ∧ w.heap.size ≤ w.heap.size + 3) := by unfold Hid; omega
  obtain ⟨n0, hn0⟩ : ∃ n, w.heap.size + 3 = n := ⟨_, rfl⟩
  obtain ⟨A, hA⟩ : ∃ n, w.heap.size + 2 = n := ⟨_, rfl⟩
  obtain ⟨R, hRq⟩ : ∃ n, w.heap.size + 1 = n := ⟨_, rfl⟩
  obtain ⟨C, hC⟩ : ∃ n, w.heap.size = n := ⟨_, rfl⟩
  have HWC : Hid (w.heap.size = C) := hC
  rw [hn0, hA, hRq, hC] at HLT
  rw [hn0, hA, hC] at hG
  rw [hRq] at hR
  rw [hA, hRq, hC]
  clear hn0 hA hRq hC
  obtain ⟨r0, r1, r2, r3⟩ := hG.rc.cells
  obtain ⟨ii, hii, hi0, hi1, hi2⟩ := info_parts infoInt
  have HG : Hid (BG w w3 C A n0 #[.int .i64 e, .int .i64 f, .slice aL nL cL, .slice aJ nJ cJ] (.slice aL nL cL) (.slice none 0 0) (ws (J.take 0))) := hG
  have HR : Hid (BxB w3 R (.slice none 0 0) (.slice none 0 0)) := hR
  clear hG hR
  go_wp2_with fail
  go_loopw [12] (fun i wx => ∃ k : Nat, k ≤ nJ ∧ i = .int .i64 (k : Int) ∧ BxB wx R (.slice none 0 0) (.slice none 0 0) ∧ ∃ v, BG w wx C A n0 #[.int .i64 e, .int .i64 f, .slice aL nL cL, .slice aJ nJ cJ] (.slice aL nL cL) v (ws (J.take k))) (fun i _ => nJ - (intOf i).toNat)
  case atStart => exact ⟨0, by omega, rfl, HR.out, _, HG.out⟩
  case round =>
    obtain ⟨k, hk, rfl, hR, v, hG⟩ := hrel
    obtain ⟨a1, k1, rfl⟩ := owns_slice hG.row
    have HLEN : Hid ((ws (J.take k)).length = k) := by unfold Hid; rw [ws_length, List.length_take, HNJ.out]; omega
    clear HG HR r0 r1 r2 r3
    by_cases hkn : k < nJ
    · have hkJ : k < J.length := by rw [HNJ.out]; exact hkn
      obtain ⟨b, o, rfl, c0, c1⟩ := rJ k hkJ
      have c0 := cell_later hG.bel c0
      have c1 := cell_later hG.bel c1
      have i1 : (0 : Int) ≤ (k : Int) := by omega
      have i2 : (k : Int) < (nJ : Int) := by omega
      have HS : Hid (ws (J.take (k + 1)) = ws (J.take k) ++ [(J.getD k (0, 0)).1]) := ws_take hkJ
      generalize (J.getD k (0, 0)).1 = x at *
      generalize (J.getD k (0, 0)).2 = y at *
      obtain ⟨l, hl⟩ : ∃ l, ws (J.take k) = l := ⟨_, rfl⟩
      rw [hl] at HS HLEN hG
      clear hl rJ hkJ
      have hSE : SeAt (wr.alloc (.cells #[.int .i64 x, .int .i64 y] 62)) wr.heap.size x y := heap_alloc_last wr _
      have hbA := below_alloc wr (.cells #[.int .i64 x, .int .i64 y] 62)
      have hGa := hG.later hbA
      have hRa := hR.later hbA
      clear hG hR hbA
      go_upto_region 5 with (fail)
      generalize wr.alloc (.cells #[.int .i64 x, .int .i64 y] 62) = wa at *
      generalize wr.heap.size = S at *
      obtain ⟨s0, s1⟩ := hSE.cells
      obtain ⟨d0, d1⟩ := hGa.bt.cells
      have hrow := hGa.row
      have hsz := hGa.sz
      have HGa : Hid (BG w wa C A n0 #[.int .i64 e, .int .i64 f, .slice aL nL cL, .slice (some ⟨b, o, none⟩) nJ cJ] (.slice aL nL cL) (.slice a1 l.length k1) l) := hGa
      have HRa : Hid (BxB wa R (.slice none 0 0) (.slice none 0 0)) := hRa
      have hlen : l.length ≤ 8796093022208 := by have := HLEN.out; omega
      clear hGa hRa hSE c0 c1
      have HZ : Hid (∀ v' W', (wa.alloc (.cells #[.int .i64 x] 3)).grownBy W' (Value.slice a1 l.length k1).ownBlock → W'.ownsRow n0 3 1 v' (l.length + 1) (i64s l ++ [.int .i64 x]) → BxB W' A (.slice aL nL cL) (.slice a1 l.length k1) ∧ BG w (W'.setCell ⟨A, 1, none⟩ v') C A n0 #[.int .i64 e, .int .i64 f, .slice aL nL cL, .slice (some ⟨b, o, none⟩) nJ cJ] (.slice aL nL cL) v' (l ++ [x]) ∧ BxB (W'.setCell ⟨A, 1, none⟩ v') R (.slice none 0 0) (.slice none 0 0)) := fun v' W' hg ho => by
        have hb := below_alloc wa (.cells #[.int .i64 x] 3)
        have e : i64s (l ++ [x]) = i64s l ++ [Value.int .i64 x] := by simp [Rs.i64s]
        obtain ⟨q1, q2, q3⟩ := (HGa.out.later hb).app (y := x) (v' := v') (by rw [e, List.length_append]; exact ho) hg (fun k => k = R) (fun k hk => by have := HLT.out; omega)
        exact ⟨q1, q2, (q3 R rfl HLT.out.2.1).trans (HRa.out.later hb)⟩
      go_wp2_with (at_builtin; (refine wpList_append_own _ rfl _ _ 32 rfl n0 3 ii (.int .i64 0) 1 8 Tryz.underlying32 hii hi0 hi1 hi2 rfl (by decide) (.slice a1 l.length k1) l.length (i64s l) rfl (hrow.alloc _) ⟨wa.heap.size, 0, none⟩ 1 1 [.int .i64 x] rfl rfl (cell_row_new _ _ _) (by simp [Value.oneCell']) (by unfold maxLen; omega) (by omega) (by simp; omega) ?_); intro v' w7 hown' hg7 _; obtain ⟨a2, k2, rfl⟩ := owns_slice hown'; have HO7 : Hid (w7.ownsRow n0 3 1 (.slice a2 (l.length + 1) k2) (l.length + 1) (i64s l ++ [.int .i64 x])) := hown'; have HG7 : Hid ((wa.alloc (.cells #[.int .i64 x] 3)).grownBy w7 (Value.slice a1 l.length k1).ownBlock) := hg7; obtain ⟨z0, z1⟩ := (HZ.out _ _ hg7 hown').1.cells; have zf := Rt.row_frozen (HZ.out _ _ hg7 hown').1 1; clear hown' hg7)
      have HS8 : Hid (BG w (w7.setCell ⟨A, 1, none⟩ (.slice a2 (l.length + 1) k2)) C A n0 #[.int .i64 e, .int .i64 f, .slice aL nL cL, .slice (some ⟨b, o, none⟩) nJ cJ] (.slice aL nL cL) (.slice a2 (l.length + 1) k2) (l ++ [x]) ∧ BxB (w7.setCell ⟨A, 1, none⟩ (.slice a2 (l.length + 1) k2)) R (.slice none 0 0) (.slice none 0 0)) := (HZ.out _ _ HG7.out HO7.out).2
      go_roundw
      case rel => exact ⟨k + 1, by omega, by go_num, HS8.out.2, _, by rw [HS.out]; exact HS8.out.1⟩
      case measure => simp [intOf]; omega
    · have hkn' : decide ((k : Int) < (nJ : Int)) = false := by simp; omega
      have etk : J.take k = J := List.take_of_length_le (by rw [HNJ.out]; omega)
      rw [etk] at hG HLEN
      clear etk
      obtain ⟨d0, d1⟩ := hG.bt.cells
      have HG : Hid (BG w wr C A n0 #[.int .i64 e, .int .i64 f, .slice aL nL cL, .slice aJ nJ cJ] (.slice aL nL cL) (.slice a1 (ws J).length k1) (ws J)) := hG
      have HWJ : Hid ((ws J).length = nJ) := by unfold Hid; rw [ws_length, HNJ.out]
      have hst : ∀ ds : Array Value, (wr.setRow R ds).ownsRow n0 3 1 (.slice a1 (ws J).length k1) (ws J).length (i64s (ws J)) := fun ds => owns_type hG.row hR (by decide) ds
      have HST : Hid _ := hst
      rw [HWJ.out] at d1
      clear hG hst
      go_wp2_with (refine stRw infoBt (cs := #[.slice none 0 0, .slice none 0 0]) rfl hR #[.slice aL nL cL, .slice a1 nJ k1] rfl (bt_one _ _ _ _ _ _) rfl _ _ rfl rfl rfl ?_)
      refine bodyPost_ret (results_bt (p := 2) rfl _ _ R (.slice aL nL cL) (.slice a1 nJ k1) rfl (Rt.heap_setRow_same hR _)) rfl ?_
      refine ⟨_, rfl, ?_, Rt.setRow_below (by have := HLT.out; have := HWC.out; omega) HG.out.bel _⟩
      have h := HST.out #[.slice aL nL cL, .slice a1 nJ k1]
      rw [HWJ.out] at h
      exact Rs.owns_wide h (by have := HLT.out; have := HWC.out; omega)
end Go.Proofs.YteocfmimgoocnaaGreatDoor.Rc
/- Contract: lives. -/
namespace Go.Proofs.YteocfmimgoocnaaGreatDoor.Rc
open Go.RowKit Go.Maps Go.Great
open Rs (RdI RdS ps Tb i64s owns_later owns_slice owns_type)
set_option linter.unusedVariables false
set_option linter.unusedSimpArgs false

theorem l_ep : t3.ep = 1 ∧ t3.fr = 25 := by decide +kernel
theorem l_jn : pnJ stT [] [1, 2, 3] = [(1, 0), (2, 1), (3, 2)] := by
  unfold pnJ
  rw [if_pos three_E]
  decide +kernel
theorem l_rgt : rgt 1 25 [] [(1, 0), (2, 1), (3, 2)] = true := by decide +kernel
theorem l_pk : Bt.pk (Bt.bitsF (flds 1 25 [] [(1, 0), (2, 1), (3, 2)])) = [1, 0, 25, 0, 12, 4, 0, 32, 64, 194] := by decide +kernel
theorem l_wr : wrS 1 25 [] [(1, 0), (2, 1), (3, 2)] = ⟨#[1, 0, 25, 0, 12, 4, 0, 32, 64, 194]⟩ := by
  unfold wrS
  rw [l_rgt, if_pos rfl, l_pk]
  rfl
theorem l_we : wrE 1 25 [] [(1, 0), (2, 1), (3, 2)] = 0 := by unfold wrE; rw [l_rgt]; rfl
set_option maxRecDepth 100000 in
set_option maxHeartbeats 2000000 in
theorem lives_any (w : World) (hTb : Tb w) : Calls Tryz.prog 7 #[] w fun e w' => e = .returned (.bool true) ∧ Below w.heap.size w w' := by
  have h1 := rStart_any w
  obtain ⟨c0, hc0⟩ : ∃ c, tcs stT = c := ⟨_, rfl⟩
  rw [hc0] at h1
  go_enter Tryz.func7, Tryz.ntmps7
  go_wp2_with fail
  refine h1.mono ?_
  rintro r w2 ⟨rfl, hb2⟩
  have hB3 := hb2.alloc hb2.size (.cells #[.int .i64 1, .int .i64 2, .int .i64 3] 3)
  have h2 := of_any stT none (some ⟨w2.heap.size, 0, none⟩) 0 3 [] [1, 2, 3] (w2.alloc (.cells #[.int .i64 1, .int .i64 2, .int .i64 3] 3)) (hTb.later hB3) (by simp) (by simp) (Rs.RdI.nil _ _) (rd_three w2)
  rw [hc0] at h2
  simp only [List.length_nil, List.length_cons, Nat.zero_add, Nat.reduceAdd] at h2
  clear h1 hc0 hb2
  go_wp2_with fail
  refine h2.mono ?_
  rintro r w4 ⟨⟨vL, vJ, rfl, hRP⟩, hb4⟩
  have hlv := hRP.lv
  have hjn := hRP.jn
  rw [show oLv stT [] [1, 2, 3] = [] by unfold oLv; rw [if_pos three_E]] at hlv
  rw [l_jn] at hjn
  unfold recA
  rw [pn_three, l_ep.1, l_ep.2, three_E]
  have HB4 : Hid (Below w.heap.size w w4) := hB3.trans (hb4.mono hB3.size)
  obtain ⟨a1, k1, rfl⟩ := owns_slice hlv
  obtain ⟨a2, k2, rfl⟩ := owns_slice hjn
  simp only [List.length_nil, List.length_cons, Nat.zero_add, Nat.reduceAdd] at hlv hjn ⊢
  have hbA := below_alloc w4 (.cells #[.int .i64 1, .int .i64 25, .slice a1 0 k1, .slice a2 3 k2] 38)
  have hw := write_any 1 25 a1 a2 k1 k2 [] [(1, 0), (2, 1), (3, 2)] _ ((rdI_of (l := []) hlv).later hbA) ((rdP_of (l := [(1, 0), (2, 1), (3, 2)]) hjn).later hbA)
  rw [l_wr, l_we] at hw
  simp only [List.length_nil, List.length_cons, Nat.zero_add, Nat.reduceAdd] at hw
  have hA := RcAt.new w4 #[.int .i64 1, .int .i64 25, .slice a1 0 k1, .slice a2 3 k2]
  have HBA : Hid (Below w.heap.size w (w4.alloc (.cells #[.int .i64 1, .int .i64 25, .slice a1 0 k1, .slice a2 3 k2] 38))) := HB4.out.trans (hbA.mono HB4.out.size)
  clear h2 hRP hb4 hB3 hlv hjn hbA
  go_upto_region 2 with (fail)
  generalize w4.alloc (.cells #[.int .i64 1, .int .i64 25, .slice a1 0 k1, .slice a2 3 k2] 38) = w5 at *
  generalize w4.heap.size = A at *
  obtain ⟨r0, r1, r2, r3⟩ := hA.cells
  go_wp2_with fail
  refine hw.mono ?_
  rintro r w6 ⟨rfl, hb6⟩
  have HB6 : Hid (Below w.heap.size w w6) := HBA.out.trans (hb6.mono HBA.out.size)
  clear r0 r1 r2 r3 hw
  obtain ⟨r0, r1, r2, r3⟩ := (hA.later hb6).cells
  clear hA hb6
  go_wp2_with fail
  go_ret
  exact ⟨rfl, HB6.out⟩
end Go.Proofs.YteocfmimgoocnaaGreatDoor.Rc
