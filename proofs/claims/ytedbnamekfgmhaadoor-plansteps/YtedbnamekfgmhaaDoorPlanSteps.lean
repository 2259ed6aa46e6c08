/- For every tree and every batch: Next and Cost of package plan answer what the document says, and a right tree: PlanSteps, in its first form (the listed variable as the program's text lays it), and the card. -/
import Derived.Test.YtedbnamekfgmhaaDoorCards
import Derived.Test.YtedbnamekfgmhaaDoorTie
import Derived.Test.YtedbnamekfgmhaaDoorPlK
import Derived.Test.YtedbnamekfgmhaaDoorRsK
import Derived.Test.YtedbnamekfgmhaaDoorOpenTr
import Derived.WalkKit
import Derived.ProofKit
import Derived.OpenShut
import Derived.Deep.DeepHandedRow
import Derived.Deep.DeepWitnessRowRef
import Derived.SizedLaws
namespace Go.Proofs.YtedbnamekfgmhaaDoor.planSteps
open Go.ChangeShapes Go.WideShapes Go.ChangeAt Go.RowKit Go.Maps Go.Shelf
open Rs (En zE rcs RdI RdS ps Tb tb_of laidWorld open_bt sized_agg roD bytesI open_sl)
set_option linter.unusedVariables false
set_option linter.unusedSimpArgs false

theorem vs_of {W : World} (hL : laidMetH Tryd.prog Rows.planStepsRow.laid W) : Tb W := tb_of (show laidMet Tryd.prog Rows.planStepsRow.laid W from hL)
def trD {H : Type} : DataW H := .agg [.lit (.int .i64 0), .lit (.int .i64 0), .agg (List.replicate 21 (.agg [.lit (.int .i64 0), .lit (.int .i64 0)])), roD]
set_option maxRecDepth 100000 in
set_option maxHeartbeats 2000000 in
theorem walk (t : Tr) (aL aJ : Option Addr) (cL cJ : Nat) (L J : List Int) (w : World) (rL : RdI w aL L) (rJ : RdI w aJ J) (lL : L.length * 8 ≤ 140737488351232) (lJ : J.length * 8 ≤ 140737488351232) (hTb : Tb w) :
    Calls Tryd.prog 3 #[.agg (tcs t), .agg #[.slice aL L.length cL, .slice aJ J.length cJ] ] w fun e w' => e = .returned (.bool true) ∧ Below w.heap.size w w' := by
  have hX := TB.new w t aL aJ L.length J.length cL cJ
  obtain ⟨ct, hct⟩ : ∃ c, tcs t = c := ⟨_, rfl⟩
  have HT : Hid (tcs t = ct) := hct
  clear hct
  go_enter Tryd.func3, Tryd.ntmps3
  go_upto_region 1 with (fail)
  generalize (w.alloc (.cells (tcs t) 31)).alloc (.cells #[.slice aL L.length cL, .slice aJ J.length cJ] 34) = w0 at *
  rw [HT.out]
  obtain ⟨C, hC⟩ : ∃ C, w.heap.size + 1 = C := ⟨_, rfl⟩
  rw [hC] at hX ⊢
  obtain ⟨B, hB⟩ : ∃ B, w.heap.size = B := ⟨_, rfl⟩
  rw [hB] at hX ⊢
  clear hC hB
  have hl := lives_any w0 (hTb.later hX.bel)
  go_wp2_with fail
  refine hl.mono ?_
  rintro r w1 ⟨rfl, hb1⟩
  have hX1 := hX.later hb1
  clear hl hX hb1
  have f1 := pnL_len t L J
  have f2 := pnJ_len t L J
  have f3 := pnI_short t L J
  have HCKN : Hid (plE t L J = 0 → tck (pnT t L J) = true) := fun h => by unfold pnT; rw [if_pos h]; exact (plE_stp h).tckn
  have h1 := next_any t aL aJ cL cJ L J w1 (hTb.later hX1.bel) (by omega) (by omega) (rL.later hX1.bel) (rJ.later hX1.bel)
  have HC2 : ∀ W, Below w.heap.size w W → _ := fun W hW => cost_any t aL aJ cL cJ L J W (hTb.later hW) (by omega) (by omega) (rL.later hW) (rJ.later hW)
  have HN2 : ∀ W, Below w.heap.size w W → _ := fun W hW => rNext_any t aL aJ cL cJ L J W (by omega) (by omega) (rL.later hW) (rJ.later hW)
  unfold NextA at h1 HN2
  rw [HT.out] at h1 HC2 HN2
  have hN1 : ∃ f : World → World → Value → Value → Value → Prop, f = fun w w' => NextP w w' t L J := ⟨_, rfl⟩
  obtain ⟨n, hn⟩ : ∃ n, pnT t L J = n := ⟨_, rfl⟩
  obtain ⟨e, he⟩ : ∃ e, plE t L J = e := ⟨_, rfl⟩
  obtain ⟨p, hp⟩ : ∃ e, pnP t L J = e := ⟨_, rfl⟩
  obtain ⟨ll, hll⟩ : ∃ l, pnL t L J = l := ⟨_, rfl⟩
  obtain ⟨lj, hlj⟩ : ∃ l, pnJ t L J = l := ⟨_, rfl⟩
  obtain ⟨li, hli⟩ : ∃ l, pnI t L J = l := ⟨_, rfl⟩
  obtain ⟨cn, hcn⟩ : ∃ c, tcs n = c := ⟨_, rfl⟩
  have HC : Hid (tcs n = cn) := hcn
  have HLL : Hid (pnL t L J = ll ∧ pnJ t L J = lj ∧ pnI t L J = li) := ⟨hll, hlj, hli⟩
  rw [hn, he] at HCKN
  rw [hll] at f1
  rw [hlj] at f2
  rw [hli] at f3
  rw [he, hli] at HC2
  simp only [hn, he, hp, hcn] at h1 HN2
  have HF : Hid (ll.length ≤ 64 ∧ lj.length ≤ 64 ∧ li.length ≤ 4096) := ⟨f1, f2, f3⟩
  clear hn he hp hll hlj hli f1 f2 f3 hN1
  have hT1 := hX1.tr
  obtain ⟨d0, d1⟩ := hX1.bt.cells
  go_wp2_with (refine rdT hT1 HT.out _ rfl rfl rfl ?_)
  refine h1.mono ?_
  rintro r w2 ⟨⟨vl, vj, vi, rfl, hNP⟩, hb2⟩
  have hX2 := hX1.later hb2
  have g1 := hNP.left
  have g2 := hNP.join
  have g3 := hNP.item
  rw [HLL.out.1] at g1
  rw [HLL.out.2.1] at g2
  rw [HLL.out.2.2] at g3
  obtain ⟨a1, k1, rfl⟩ := Rs.owns_slice g1
  obtain ⟨a2, k2, rfl⟩ := Rs.owns_slice g2
  obtain ⟨a3, k3, rfl⟩ := Rs.owns_slice g3
  have m1 := rds_of g1
  have m2 := rds_of g2
  have m3 := owns_rdT g3
  obtain ⟨t1, t2, W, hW, tT, tR, tB⟩ := two_boxes w2 n cn #[.int .i64 p, .slice a1 ll.length k1, .slice a2 lj.length k2, .slice a3 li.length k3] hcn
  have hX3 := hX2.later tB
  have HM : Hid (RdS W a1 ll ∧ RdS W a2 lj ∧ RdT W a3 li) := ⟨m1.later tB, m2.later tB, m3.later tB⟩
  clear h1 hX1 hX2 hT1 hb2 d0 d1 hNP g1 g2 g3 m1 m2 m3 tB
  go_upto_region 4 with (first | (refine stTc t1 HC.out rfl _ _ rfl rfl rfl ?_) | (refine stRw infoRk (cs := rkz) rkz_size t2 _ rfl (rk_one _ _ _ _ _ _ _ _ _ _) rfl _ _ rfl rfl rfl ?_))
  clear t1 t2 hW
  generalize w2.heap.size = N at *
  have h1 := HN2 W hX3.bel
  have hT1 := hX3.tr
  obtain ⟨d0, d1⟩ := hX3.bt.cells
  go_wp2_with (refine rdT hT1 HT.out _ rfl rfl rfl ?_)
  refine h1.mono ?_
  rintro r w4 ⟨⟨vl, vj, vi, rfl, hNP⟩, hb4⟩
  have hX4 := hX3.later hb4
  have tT4 := tT.later hb4
  have tR4 := tR.later hb4
  have g1 := hNP.left
  have g2 := hNP.join
  have g3 := hNP.item
  rw [HLL.out.1] at g1
  rw [HLL.out.2.1] at g2
  rw [HLL.out.2.2] at g3
  obtain ⟨b1, j1, rfl⟩ := Rs.owns_slice g1
  obtain ⟨b2, j2, rfl⟩ := Rs.owns_slice g2
  obtain ⟨b3, j3, rfl⟩ := Rs.owns_slice g3
  have m1 := rds_of g1
  have m2 := rds_of g2
  have m3 := owns_rdT g3
  obtain ⟨t1, t2, V, hW, vT, vR, tB⟩ := two_boxes w4 n cn #[.int .i64 p, .slice b1 ll.length j1, .slice b2 lj.length j2, .slice b3 li.length j3] hcn
  have hX5 := hX4.later tB
  have hT5 := tT4.later tB
  have hR5 := tR4.later tB
  have HM2 : Hid ((RdS V a1 ll ∧ RdS V a2 lj ∧ RdT V a3 li) ∧ (RdS V b1 ll ∧ RdS V b2 lj ∧ RdT V b3 li)) := ⟨⟨(HM.out.1.later hb4).later tB, (HM.out.2.1.later hb4).later tB, (HM.out.2.2.later hb4).later tB⟩, m1.later tB, m2.later tB, m3.later tB⟩
  clear h1 hX3 hX4 hT1 hb4 d0 d1 hNP g1 g2 g3 m1 m2 m3 tB HM tT tR tT4 tR4 HN2 hcn
  go_upto_region 5 with (first | (refine stTc t1 HC.out rfl _ _ rfl rfl rfl ?_) | (refine stRw infoRk (cs := rkz) rkz_size t2 _ rfl (rk_one _ _ _ _ _ _ _ _ _ _) rfl _ _ rfl rfl rfl ?_))
  clear t1 t2 hW
  generalize w4.heap.size = M at *
  have hsm := same_any p a1 a2 a3 b1 b2 b3 k1 k2 k3 j1 j2 j3 ll lj li V (by have := HF.out; omega) (by have := HF.out; omega) (by have := HF.out; omega) HM2.out.1.1 HM2.out.1.2.1 HM2.out.1.2.2 HM2.out.2.1 HM2.out.2.2.1 HM2.out.2.2.2
  obtain ⟨r0, r1, r2, r3⟩ := hR5.cells
  obtain ⟨s0, s1, s2, s3⟩ := vR.cells
  clear HM2
  go_wp2_with (first | (refine rdT hT5 HC.out _ rfl rfl rfl ?_) | (refine rdT vT HC.out _ rfl rfl rfl ?_) | (refine neTr HC.out _ _ rfl rfl rfl rfl ?_))
  refine hsm.mono ?_
  rintro r w6 ⟨rfl, hb6⟩
  have hX6 := hX5.later hb6
  have hT6 := hT5.later hb6
  have vR6 := vR.later hb6
  clear hsm hX5 hT5 hR5 vT vR r0 r1 r2 r3 s0 s1 s2 s3 hb6
  by_cases he0 : e = 0
  · subst he0
    have hck := rCheck_any n w6
    rw [tckE_tt (HCKN.out rfl), HC.out] at hck
    go_wp2_with (refine rdT hT6 HC.out _ rfl rfl rfl ?_)
    refine hck.mono ?_
    rintro r w7 ⟨rfl, hb7⟩
    have hX7 := hX6.later hb7
    have vR7 := vR6.later hb7
    have hcs := HC2 w7 hX7.bel
    have hT7 := hX7.tr
    obtain ⟨d0, d1⟩ := hX7.bt.cells
    clear hck hX6 hT6 vR6 hb7 HC2
    go_wp2_with (refine rdT hT7 HT.out _ rfl rfl rfl ?_)
    refine hcs.mono ?_
    rintro r w8 ⟨rfl, hb8⟩
    have hB8 := hX7.bel.trans (hb8.mono hX7.bel.size)
    obtain ⟨s0, s1, s2, s3⟩ := (vR7.later hb8).cells
    clear hcs hX7 vR7 hT7 d0 d1 hb8
    go_wp2_with fail
    go_ret
    exact ⟨rfl, hB8⟩
  · have hd2 : (e == 0) = false := by simpa using he0
    clear he0
    have hcs := HC2 w6 hX6.bel
    have hT7 := hX6.tr
    obtain ⟨d0, d1⟩ := hX6.bt.cells
    go_wp2_with (refine rdT hT7 HT.out _ rfl rfl rfl ?_)
    refine hcs.mono ?_
    rintro r w8 ⟨rfl, hb8⟩
    have hB8 := hX6.bel.trans (hb8.mono hX6.bel.size)
    obtain ⟨s0, s1, s2, s3⟩ := (vR6.later hb8).cells
    clear hcs hX6 vR6 hT7 hT6 d0 d1 hb8
    go_wp2_with fail
    go_ret
    exact ⟨rfl, hB8⟩
theorem own : ownKnob Tryd.prog.godebug = none := by kernel_rfl
theorem laidOut : laidOutB Tryd.prog = true := by kernel_rfl
set_option maxRecDepth 20000 in
theorem contract (H : Type) (enc : TypeId × Value → H) (W : World) (base : Nat) (args : Array Value) (ds gs : List (DataW H)) (before : List MemPlace)
    (hval : ∀ (j : Nat) t v, Tryd.f3.params[j]? = some t → args[j]? = some v → Value.okWide Tryd.prog W .any base t v)
    (hW : DataW.Whole enc Tryd.prog Tryd.f3.params.toList Rows.planStepsSpec.vars false W args.toList ds gs before)
    (hsz : (DataW.weightsEach Tryd.prog (Tryd.f3.params.toList ++ Rows.planStepsSpec.plain.varTypes Tryd.prog) (ds ++ gs)).all (· ≤ reachBytes) = true)
    (hL : laidMetH Tryd.prog Rows.planStepsRow.laid W) :
    Calls Tryd.prog 3 args W fun e W' => ∃ v, e = .returned v ∧ Rows.planStepsSpec.post enc Tryd.prog Tryd.f3 false true false false W args v W' := by
  have hv := vs_of hL
  have hW' := hW
  obtain ⟨p, q, hA0, hV, rfl, hfz, hnd⟩ := hW
  have hA : DataW.TrodAll enc Tryd.prog W 0 (fun _ => true) true Tryd.f3.params.toList args.toList ds p := hA0
  rw [Tryd.params3] at hA hval hsz
  obtain ⟨v0, vs0, d0, ds0, p0, q0, hargs, rfl, rfl, h0, r0⟩ := trodAll_cons hA
  obtain ⟨v1, vs1, d1, ds1, p1, q1, rfl, rfl, rfl, h1, r1⟩ := trodAll_cons r0
  obtain ⟨rfl, rfl, rfl⟩ := trodAll_nil r1
  obtain rfl : args = #[v0, v1] := by cases args; simp_all
  obtain ⟨rfl, rfl⟩ := trodVars_none hV
  have k0 := h0
  have lt0 : ∀ x ∈ p0, x.block < W.heap.size := by obtain ⟨m, hm⟩ := k0; exact DataW.trod_lt m _ _ _ hm
  obtain ⟨f0, rfl⟩ := open_tr (hval 0 31 v0 rfl rfl) h0
  have k1 := h1
  have lt1 : ∀ x ∈ p1, x.block < W.heap.size := by obtain ⟨m, hm⟩ := k1; exact DataW.trod_lt m _ _ _ hm
  obtain ⟨aL1, aJ1, cL1, cJ1, L1, J1, rfl, rL1, rJ1, lL1, lJ1⟩ := open_bt (fun parts e => sized_agg hsz (j := 1) (t := 34) rfl (by rw [← e]; rfl) Tryd.underlying34) (hval 1 34 v1 rfl rfl) h1
  clear hA0
  refine (walk f0 aL1 aJ1 cL1 cJ1 L1 J1 W rL1 rJ1 lL1 lJ1 hv).mono fun e W' ⟨he, bel⟩ => ?_
  subst he
  exact ⟨_, rfl, _, _, _, [], _, [], hW', trodAll_mk1 (shut_bool Tryd.underlying4 _), (trodAll_cons_mk (Below.trod laidOut (by kernel_rfl) (of_decide_eq_true (by kernel_rfl)) k0 bel lt0) (trodAll_cons_mk (Below.trod laidOut (by kernel_rfl) (of_decide_eq_true (by kernel_rfl)) k1 bel lt1) trodAll_mk0)), rfl, bel.frame _, fun h => by cases h⟩
set_option maxRecDepth 100000 in
theorem laid_met (os : Os) : laidMet Tryd.prog Rows.planStepsRow.laid ((laidWorld os).forCall (fun _ _ => 0) ⟨#[], #[.agg (tcs (tz 0)), .agg #[.slice none 0 0, .slice none 0 0]], []⟩).memory :=
  laidMet_of_run' 8 (by kernel_rfl) (by kernel_rfl)
set_option maxRecDepth 100000 in
theorem reads (os : Os) {H : Type} (enc : TypeId × Value → H) : ∃ places, DataW.whole enc Tryd.prog ((laidWorld os).forCall (fun _ _ => 0) ⟨#[], #[.agg (tcs (tz 0)), .agg #[.slice none 0 0, .slice none 0 0]], []⟩).memory Tryd.f3.params.toList Rows.planStepsSpec.vars false (#[.agg (tcs (tz 0)), .agg #[.slice none 0 0, .slice none 0 0]] : Array Value).toList 8 = some ([trD, .agg [.nil, .nil]], [], places) :=
  ⟨[], by kernel_rfl⟩
set_option maxRecDepth 100000 in
theorem lifted (os : Os) (started : os.Started) (H : Type) (enc : TypeId × Value → H) (F : Stop.Interp) :
    ReturnsInHanded {} Tryd.checked os 3 .any ((OpenSpec.ofChange Rows.planStepsSpec).preRow enc Tryd.prog Tryd.f3 Rows.planStepsRow.domain false Rows.planStepsRow.laid) (((OpenSpec.ofChange Rows.planStepsSpec).at F).post enc Tryd.prog Tryd.f3 false true false false) := by
  obtain ⟨places, hx⟩ := reads os enc
  refine returnsInHanded_of_row (C := Tryd.checked) (s := (OpenSpec.ofChange Rows.planStepsSpec)) own started (by kernel_rfl) Tryd.func3
    (witness_row_at (enc := enc) (C := Tryd.checked) false (laidWorld os) #[.agg (tcs (tz 0)), .agg #[.slice none 0 0, .slice none 0 0]] rfl (by kernel_rfl) (by kernel_rfl) (by kernel_rfl)
      (OpenSpec.preRow_of_cond 8 hx (by kernel_rfl) (fun k hk => by cases hk) (by kernel_rfl) (laid_met os))) ?_
  intro W base args ds gs before hval hW hc1 hc2 hsz hL hsh _
  exact contract H enc W base args ds gs before hval hW hsz hL
theorem said : Rows.PlanStepsSaid :=
  OpenClaim.holds_of_cond 3 Tryd.f3 rfl rfl rfl rfl rfl rfl rfl ⟨rfl, rfl, rfl, rfl, rfl⟩ rfl rfl rfl rfl rfl (by kernel_rfl) Tryd.func3 (by kernel_rfl)
    (of_decide_eq_true (by kernel_rfl)) (by unfold Func.isWrapper; first | (rw [if_pos (by decide +kernel)]; kernel_rfl) | (rw [if_neg (by decide +kernel)]; exact ⟨rfl, rfl⟩))
    (fun os started H enc _ F => by rw [OpenClaim.pre_eq_preRow]; exact lifted os started H enc F)
theorem plain (f : FuncId) (fn : Func) (hf : Tryd.pinned.checked.prog.funcNamed "coterie/coterielaw12.PlanSteps" = some f) (hfn : Tryd.pinned.checked.prog.funcs[f]? = some fn) :
    false = Tryd.pinned.checked.prog.looks [] ∧ ∀ (j : Nat) t, fn.params[j]? = some t → Tryd.pinned.checked.prog.wantsStandIn t = false := by
  obtain rfl : f = 3 := Option.some.inj ((show Tryd.prog.funcNamed "coterie/coterielaw12.PlanSteps" = some 3 by kernel_rfl).symm.trans hf) |>.symm
  obtain rfl : fn = Tryd.f3 := (Option.some.inj (Tryd.func3.symm.trans hfn)).symm
  refine ⟨by kernel_rfl, fun j t ht => ?_⟩
  rw [Tryd.params3] at ht
  have h31 : Tryd.prog.wantsStandIn 31 = false := by kernel_rfl
  have h34 : Tryd.prog.wantsStandIn 34 = false := by kernel_rfl
  have hm := Array.mem_of_getElem? ht
  simp at hm
  rcases hm with rfl | rfl
  · exact h31
  · exact h34
end Go.Proofs.YtedbnamekfgmhaaDoor.planSteps
namespace Go.Proofs.YtedbnamekfgmhaaDoor
theorem planSteps_holds : Rows.PlanStepsCardSaid :=
  Claim7.holds_tied_plain_at .later [] _ _ _ _ planSteps.said (fun _ h => by cases h) (by kernel_rfl) (fun _ h => by cases h) planSteps_row_tie rfl ⟨rfl, rfl⟩ (by kernel_rfl) rfl planSteps.plain (by kernel_rfl)
#print axioms planSteps_holds
end Go.Proofs.YtedbnamekfgmhaaDoor
