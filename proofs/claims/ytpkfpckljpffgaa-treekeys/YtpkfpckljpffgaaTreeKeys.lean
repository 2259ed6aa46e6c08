/- For every tree, every number of a node and every number of a slot: KeyOf, Group and PathOf of package keytree answer what the document says: TreeKeys, with no condition. -/
import Derived.Test.YtpkfpckljpffgaaRows
import Derived.Test.YtpkfpckljpffgaaOpenTr
import Derived.Test.YtpkfpckljpffgaaTrL
import Derived.Test.YtpkfpckljpffgaaTrP
namespace Go.Proofs.Ytpkfpckljpffgaa.treeKeys
open Go.ChangeShapes Go.WideShapes Go.ChangeAt Go.RowKit
open Rt (Ky zK pcs KyAt PaAt)
set_option linter.unusedVariables false
set_option linter.unusedSimpArgs false

theorem neqPa {ops : Array Oper} {rest : List Oper} {o : Oper} {a : Act} {w : World} {Q : Exit → Act → World → Prop} {f : Nat → Ky} {c : Array Value} (hc : pcs f = c) (x y : Operand) (ho : o.op = .binOp .neq 39 x y 39)
    (hx : a.eval x = .agg c) (hy : a.eval y = .agg c) (hw : Region.wanted o (yielded ops a.tmps) = true) (k : wpList Try.prog ops Q rest (a.put o.dst (.bool false)) w) : wpList Try.prog ops Q (o :: rest) a w := by
  refine rd_guard hw ?_ k
  subst hc
  have h1 := run_eqGuard_agg (P := Try.prog) w .neq 39 x y (pcs f) (pcs f) Try.eqGuardType39
  have h2 := run_neq_struct (P := Try.prog) w 39 (pcs f) (pcs f)
  rw [Rt.run_eqPa, Rt.eqP_refl] at h2
  simp [execOp, ho, hx, hy, h1, h2, Sem.run_bind, Result.andThen]
set_option maxRecDepth 100000 in
set_option maxHeartbeats 2000000 in
theorem walk (t : Tr) (v s : Int) (wf1 : (Lit.int .i64 v).wf = true) (wf2 : (Lit.int .i64 s).wf = true) (w : World) :
    Calls Try.prog 4 #[.agg (tcs t), .int .i64 v, .int .i64 s] w fun e w' => e = .returned (.bool true) ∧ Below w.heap.size w w' := by
  clear wf1 wf2
  have hT := TrAt.new w t
  have hB := alloc_tr w t
  have h1 := keyOf_any t v
  have h2 := rKeyOf_any t v
  have h3 := pathOf_any t s
  have h4 := rPathOf_any t s
  have h5 := group_any t
  have h6 := rKeyOf_any t 0
  unfold KeyA at h1 h2 h5 h6
  unfold PathA at h3 h4
  obtain ⟨ct, hct⟩ : ∃ c, tcs t = c := ⟨_, rfl⟩
  simp only [hct] at h1 h2 h3 h4 h5 h6
  have HT : Hid (tcs t = ct) := hct
  clear hct
  generalize koE t v = E at *
  generalize koK t v = e at *
  generalize koE t 0 = G at *
  generalize koK t 0 = g at *
  generalize poE t s = F at *
  generalize poP t s = p at *
  go_enter Try.func4, Try.ntmps4
  go_upto_region 1 with (fail)
  generalize w.alloc (.cells (tcs t) 31) = wa at *
  rw [HT.out]
  obtain ⟨B, hBB⟩ : ∃ B, w.heap.size = B := ⟨_, rfl⟩
  rw [hBB] at hT ⊢
  clear hBB
  go_wp2_with fail
  refine (lives_any _).mono ?_
  rintro r wb ⟨rfl, hbb⟩
  have hTb := hT.later hbb
  have hBb := hB.trans (hbb.mono hB.size)
  clear hT hB hbb
  /- the node's key, twice -/
  go_wp2_with (refine rdT hTb HT.out _ rfl rfl rfl ?_)
  refine (h1 _).mono ?_
  rintro r wc ⟨rfl, hbc⟩
  have hTc := hTb.later hbc
  have hBc := hBb.trans (hbc.mono hBb.size)
  clear h1 hTb hBb hbc
  go_upto_region 4 with (fail)
  have hAd := KyAt.new wc e
  have hTd := hTc.later (Rt.alloc_ky wc e)
  have hBd := hBc.trans ((Rt.alloc_ky wc e).mono hBc.size)
  have HNA : Hid (B ≠ wc.heap.size ∧ w.heap.size ≤ wc.heap.size) := ⟨Nat.ne_of_lt hTc.lt, hBc.size⟩
  clear hTc hBc
  generalize wc.alloc (.cells #[.int .i64 e.bas, .int .i64 e.stp] 23) = wd at *
  generalize wc.heap.size = A at *
  go_wp2_with (refine rdT hTd HT.out _ rfl rfl rfl ?_)
  refine (h2 _).mono ?_
  rintro r we ⟨rfl, hbe⟩
  have hTe := hTd.later hbe
  have hAe := hAd.later hbe
  have hBe := hBd.trans (hbe.mono hBd.size)
  clear h2 hTd hAd hBd hbe
  go_upto_region 5 with (fail)
  have hDf := KyAt.new we e
  have hAf := hAe.later (Rt.alloc_ky we e)
  have hTf := hTe.later (Rt.alloc_ky we e)
  have hBf := hBe.trans ((Rt.alloc_ky we e).mono hBe.size)
  have HND : Hid (B ≠ we.heap.size ∧ A ≠ we.heap.size ∧ w.heap.size ≤ we.heap.size) := ⟨Nat.ne_of_lt hTe.lt, Nat.ne_of_lt hAe.lt, hBe.size⟩
  clear hTe hAe hBe
  generalize we.alloc (.cells #[.int .i64 e.bas, .int .i64 e.stp] 23) = wf at *
  generalize we.heap.size = D at *
  obtain ⟨a0, a1⟩ := hAf.cells
  obtain ⟨d0, d1⟩ := hDf.cells
  go_upto_region 7 with (fail)
  clear a0 a1 d0 d1
  /- the slot's path, twice -/
  go_wp2_with (refine rdT hTf HT.out _ rfl rfl rfl ?_)
  refine (h3 _).mono ?_
  rintro r wg ⟨rfl, hbg⟩
  have hTg := hTf.later hbg
  have hAg := hAf.later hbg
  have hDg := hDf.later hbg
  have hBg := hBf.trans (hbg.mono hBf.size)
  have hz := Rt.new_zeroP wg
  clear h3 hTf hAf hDf hBf hbg
  go_upto_region 8 with (refine Rt.stP (g := p) hz rfl _ _ rfl rfl rfl ?_)
  rw [Rt.alloc_zeroP, World.setRow_alloc_new]
  have hPh := PaAt.new wg p
  have hbh := Rt.alloc_pa wg p
  have hTh := hTg.later hbh
  have hAh := hAg.later hbh
  have hDh := hDg.later hbh
  have hBh := hBg.trans (hbh.mono hBg.size)
  clear hz hTg hAg hDg hBg hbh
  generalize wg.alloc (.cells (pcs p) 39) = wh at *
  generalize wg.heap.size = P at *
  obtain ⟨cp, hcp⟩ : ∃ c, pcs p = c := ⟨_, rfl⟩
  have HP : Hid (pcs p = cp) := hcp
  rw [hcp]
  clear hcp
  go_wp2_with (refine rdT hTh HT.out _ rfl rfl rfl ?_)
  refine (h4 _).mono ?_
  rintro r wi ⟨rfl, hbi⟩
  have hTi := hTh.later hbi
  have hAi := hAh.later hbi
  have hDi := hDh.later hbi
  have hPi := hPh.later hbi
  have hBi := hBh.trans (hbi.mono hBh.size)
  have hz := Rt.new_zeroP wi
  clear h4 hTh hAh hDh hBh hPh hbi
  go_upto_region 9 with (refine Rt.stP (g := p) hz rfl _ _ rfl rfl rfl ?_)
  rw [Rt.alloc_zeroP, World.setRow_alloc_new]
  have hQj := PaAt.new wi p
  have hbj := Rt.alloc_pa wi p
  have hTj := hTi.later hbj
  have hAj := hAi.later hbj
  have hDj := hDi.later hbj
  have hPj := hPi.later hbj
  have hBj := hBi.trans (hbj.mono hBi.size)
  clear hz hTi hAi hDi hBi hPi hbj
  generalize wi.alloc (.cells (pcs p) 39) = wj at *
  generalize wi.heap.size = Q at *
  rw [HP.out]
  go_upto_region 11 with (first
    | (refine rd_guard (v := .agg cp) (by rfl) (by rw [← HP.out]; exact Rt.ldP_exec hPj rfl rfl) ?_)
    | (refine rd_guard (v := .agg cp) (by rfl) (by rw [← HP.out]; exact Rt.ldP_exec hQj rfl rfl) ?_)
    | (refine neqPa HP.out _ _ rfl rfl rfl rfl ?_))
  clear hPj hQj
  /- the root's key, twice -/
  go_wp2_with (refine rdT hTj HT.out _ rfl rfl rfl ?_)
  refine (h5 _).mono ?_
  rintro r wk ⟨rfl, hbk⟩
  have hTk := hTj.later hbk
  have hAk := hAj.later hbk
  have hDk := hDj.later hbk
  have hBk := hBj.trans (hbk.mono hBj.size)
  clear h5 hTj hAj hDj hBj hbk
  go_upto_region 12 with (refine stKy hAk g rfl _ _ rfl rfl rfl ?_)
  have hAl := KyAt.row hAk g
  have hTl : TrAt (wk.setRow A #[.int .i64 g.bas, .int .i64 g.stp]) B t := (Rt.row_other HNA.out.1 _).trans hTk
  have hDl : KyAt (wk.setRow A #[.int .i64 g.bas, .int .i64 g.stp]) D e := (Rt.row_other (fun h => HND.out.2.1 h.symm) _).trans hDk
  have hBl := Rt.setRow_below HNA.out.2 hBk #[.int .i64 g.bas, .int .i64 g.stp]
  clear hAk hTk hDk hBk
  generalize wk.setRow A #[.int .i64 g.bas, .int .i64 g.stp] = wl at *
  go_wp2_with (refine rdT hTl HT.out _ rfl rfl rfl ?_)
  refine (h6 _).mono ?_
  rintro r wm ⟨rfl, hbm⟩
  have hAm := hAl.later hbm
  have hDm := hDl.later hbm
  have hBm := hBl.trans (hbm.mono hBl.size)
  clear h6 hTl hAl hDl hBl hbm
  go_upto_region 13 with (refine stKy hDm g rfl _ _ rfl rfl rfl ?_)
  have hDn := KyAt.row hDm g
  have hAn : KyAt (wm.setRow D #[.int .i64 g.bas, .int .i64 g.stp]) A g := (Rt.row_other HND.out.2.1 _).trans hAm
  have hBn := Rt.setRow_below HND.out.2.2 hBm #[.int .i64 g.bas, .int .i64 g.stp]
  clear hAm hDm hBm
  generalize wm.setRow D #[.int .i64 g.bas, .int .i64 g.stp] = wn at *
  obtain ⟨a0, a1⟩ := hAn.cells
  obtain ⟨d0, d1⟩ := hDn.cells
  clear hAn hDn
  go_wp2_with fail
  go_ret
  exact ⟨ret_bool (by simp), hBn⟩
theorem own : ownKnob Try.prog.godebug = none := by kernel_rfl
theorem laidOut : laidOutB Try.prog = true := by kernel_rfl
set_option maxRecDepth 100000 in
theorem lifted (os : Os) (started : os.Started) (H : Type) (enc : TypeId × Value → H) :
    ReturnsInHanded {} Try.checked os 4 .any (Rows.treeKeysSpec.pre6 enc Try.prog Try.f4 Rows.treeKeysRow.domain false) (Rows.treeKeysSpec.post enc Try.prog Try.f4 false true false false) := by
  refine returnsInHanded_of_change (C := Try.checked) own started (by kernel_rfl) Try.func4
    (ChangeSpec.witness6 (enc := enc) (C := Try.checked) false ⟨#[], #[.agg (List.replicate 236 (Value.int .i64 0)).toArray, .int .i64 0, .int .i64 0], []⟩ 8 (by kernel_rfl) (by kernel_rfl) (by kernel_rfl) (by kernel_rfl)) ?_
  intro W base args ds gs before hval0 hW hcnd _
  have hval : ∀ (j : Nat) t v, Try.f4.params[j]? = some t → args[j]? = some v → Value.okWide Try.prog W .any base t v := hval0
  have hW' := hW
  obtain ⟨p, q, hA0, hV, rfl, hfz, hnd⟩ := hW
  have hA : DataW.TrodAll enc Try.prog W 0 (fun _ => true) true Try.f4.params.toList args.toList ds p := hA0
  rw [Try.params4] at hA hval
  obtain ⟨v0, vs0, d0, ds0, p0, q0, hargs, rfl, rfl, h0, r0⟩ := trodAll_cons hA
  obtain ⟨v1, vs1, d1, ds1, p1, q1, rfl, rfl, rfl, h1, r1⟩ := trodAll_cons r0
  obtain ⟨v2, vs2, d2, ds2, p2, q2, rfl, rfl, rfl, h2, r2⟩ := trodAll_cons r1
  obtain ⟨rfl, rfl, rfl⟩ := trodAll_nil r2
  obtain rfl : args = #[v0, v1, v2] := by cases args; simp_all
  obtain ⟨rfl, rfl⟩ := trodVars_none hV
  have k0 := h0
  have lt0 : ∀ x ∈ p0, x.block < W.heap.size := by obtain ⟨m, hm⟩ := k0; exact DataW.trod_lt m _ _ _ hm
  obtain ⟨f0, rfl⟩ := open_tr (hval 0 31 v0 rfl rfl) h0
  obtain ⟨a1, rfl, rfl, rfl, w1⟩ := open_int Try.underlying3 (hval 1 3 v1 rfl rfl) h1
  obtain ⟨a2, rfl, rfl, rfl, w2⟩ := open_int Try.underlying3 (hval 2 3 v2 rfl rfl) h2
  clear hA0 hval0
  refine (walk f0 a1 a2 w1 w2 W).mono fun e W' ⟨he, bel⟩ => ?_
  subst he
  exact ⟨_, rfl, _, _, _, [], _, [], hW', trodAll_mk1 (shut_bool Try.underlying4 _), (trodAll_cons_mk (Below.trod laidOut (by kernel_rfl) (of_decide_eq_true (by kernel_rfl)) k0 bel lt0) (trodAll_cons_mk (shut_int Try.underlying3 w1) (trodAll_cons_mk (shut_int Try.underlying3 w2) trodAll_mk0))), rfl, bel.frame _, fun h => by cases h⟩
theorem over : Rows.treeKeysRow.holds Try.pinned (OpenSpec.ofChange Rows.treeKeysSpec) :=
  OpenClaim.holds_of_wide 4 Try.f4 rfl rfl rfl rfl rfl rfl rfl ⟨rfl, rfl, rfl, rfl, rfl⟩ rfl rfl rfl rfl rfl (by kernel_rfl) Try.func4 (by kernel_rfl)
    (of_decide_eq_true (by kernel_rfl)) (by unfold Func.isWrapper; first | (rw [if_pos (by decide +kernel)]; kernel_rfl) | (rw [if_neg (by decide +kernel)]; exact ⟨rfl, rfl⟩))
    (fun os started H enc _ => lifted os started H enc)
end Go.Proofs.Ytpkfpckljpffgaa.treeKeys
namespace Go.Proofs.Ytpkfpckljpffgaa
theorem treeKeys_holds : Rows.TreeKeysSaid := treeKeys.over
#print axioms treeKeys_holds
end Go.Proofs.Ytpkfpckljpffgaa
