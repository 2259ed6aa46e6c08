/- For every tree and every batch: Of of package record answers what the document says, and what it answers, played, is the step: RecordOf, in its first form (the listed variable as the program's text lays it), and the card. -/
import Derived.Test.YteocfmimgoocnaaGreatDoorCards
import Derived.Test.YteocfmimgoocnaaGreatDoorTie
import Derived.Test.YteocfmimgoocnaaGreatDoorRcJ5
import Derived.Test.YteocfmimgoocnaaGreatDoorRsK
import Derived.Test.YteocfmimgoocnaaGreatDoorOpenTr
import Derived.WalkKit
import Derived.ProofKit
import Derived.OpenShut
import Derived.Deep.DeepHandedRow
import Derived.Deep.DeepWitnessRowRef
import Derived.SizedLaws
namespace Go.Proofs.YteocfmimgoocnaaGreatDoor.recordOf
open Go.ChangeShapes Go.WideShapes Go.ChangeAt Go.RowKit Go.Maps Go.Shelf
open Rs (En zE rcs RdI RdS ps Tb tb_of laidWorld open_bt sized_agg roD bytesI open_sl i64s owns_later owns_slice)
open Rc
set_option linter.unusedVariables false
set_option linter.unusedSimpArgs false

theorem vs_of {W : World} (hL : laidMetH Tryz.prog Rows.recordOfRow.laid W) : Tb W := tb_of (show laidMet Tryz.prog Rows.recordOfRow.laid W from hL)
def trD {H : Type} : DataW H := .agg [.lit (.int .i64 0), .lit (.int .i64 0), .agg (List.replicate 21 (.agg [.lit (.int .i64 0), .lit (.int .i64 0)])), roD]
set_option maxRecDepth 100000 in
set_option maxHeartbeats 2000000 in
theorem walk (t : Tr) (aL aJ : Option Addr) (cL cJ : Nat) (L J : List Int) (w : World) (rL : RdI w aL L) (rJ : RdI w aJ J) (lL : L.length * 8 ≤ 140737488351232) (lJ : J.length * 8 ≤ 140737488351232) (hTb : Tb w) :
    Calls Tryz.prog 3 #[.agg (tcs t), .agg #[.slice aL L.length cL, .slice aJ J.length cJ] ] w fun e w' => e = .returned (.bool true) ∧ Below w.heap.size w w' := by
  have hX := TB.new w t aL aJ L.length J.length cL cJ
  have hl := lives_any _ (hTb.later hX.bel)
  have HO1 : Hid (∀ W, Below w.heap.size w W → Calls Tryz.prog 8 #[.agg (tcs t), .agg #[.slice aL L.length cL, .slice aJ J.length cJ] ] W fun r w' => OfA W w' t L J r ∧ Below W.heap.size W w') := fun W hW => of_any t aL aJ cL cJ L J W (hTb.later hW) (by omega) (by omega) (rL.later hW) (rJ.later hW)
  have HO2 : Hid (∀ W, Below w.heap.size w W → Calls Tryz.prog 9 #[.agg (tcs t), .agg #[.slice aL L.length cL, .slice aJ J.length cJ] ] W fun r w' => ROfA W w' t aL L J r ∧ Below W.heap.size W w') := fun W hW => Rc.rOf_any t aL aJ cL cJ L J W (by omega) (by omega) (rL.later hW) (rJ.later hW)
  have HNX : Hid (∀ W, Below w.heap.size w W → Calls Tryz.prog 12 #[.agg (tcs t), .agg #[.slice aL L.length cL, .slice aJ J.length cJ] ] W fun r w' => NextA W w' t L J r ∧ Below W.heap.size W w') := fun W hW => rNext_any t aL aJ cL cJ L J W (by omega) (by omega) (rL.later hW) (rJ.later hW)
  have HPL : Hid (plE t L J = 0 → ∀ W a b k m, Below w.heap.size w W → RdI W a L → RdP W b (pnJ t L J) → Calls Tryz.prog 11 #[.agg (tcs t), .agg #[.int .i64 (pnT t L J).ep, .int .i64 (pnT t L J).fr, .slice a L.length k, .slice b (pnJ t L J).length m] ] W fun r w' => (∃ vl vj vi, r = .returned (.tuple #[.agg (tcs (pnT t L J)), .agg #[.int .i64 (pnP t L J), vl, vj, vi], .int .i64 0]) ∧ PlayP W w' (pnL t L J) (pnJ t L J) (pnI t L J) vl vj vi) ∧ Below W.heap.size W w') := fun h0 W a b k m hW ha hb => by
    have h := play_any t (pnT t L J).ep (pnT t L J).fr a b k m L (pnJ t L J) W (hTb.later hW) ha hb lL (by have := pnJ_len t L J; omega)
    obtain ⟨q0, q1, q2, q3, q4, q5⟩ := play_own h0
    unfold PlayA at h
    rw [q0, q1, q2, q3, q4, q5] at h
    exact h
  unfold OfA recA at HO1
  unfold ROfA at HO2
  unfold NextA at HNX
  have HLEN : Hid ((oLv t L J).length < 4611686018427387904 ∧ (pnJ t L J).length < 4611686018427387904) := ⟨by unfold oLv; split <;> (first | (simp; done) | omega), by have := pnJ_len t L J; omega⟩
  have HOL : Hid (plE t L J = 0 → oLv t L J = L) := fun h => by unfold oLv; rw [if_pos h]
  have HF : Hid ((pnL t L J).length ≤ 4096 ∧ (pnJ t L J).length ≤ 4096 ∧ (pnI t L J).length ≤ 4096) := ⟨by have := pnL_len t L J; omega, by have := pnJ_len t L J; omega, pnI_short t L J⟩
  have HRP : Hid (∀ {X Y : World} {vL vJ : Value}, RecP X Y t L J vL vJ → Y.ownsRow X.heap.size 3 1 vL (oLv t L J).length (i64s (oLv t L J)) ∧ Y.ownsRow X.heap.size 62 2 vJ (pnJ t L J).length (ps (pnJ t L J))) := fun h => ⟨h.lv, h.jn⟩
  have HNP : Hid (∀ {X Y : World} {vl vj vi}, NextP X Y t L J vl vj vi → Y.ownsRow X.heap.size 62 2 vl (pnL t L J).length (ps (pnL t L J)) ∧ Y.ownsRow X.heap.size 62 2 vj (pnJ t L J).length (ps (pnJ t L J)) ∧ Y.ownsRow X.heap.size 98 6 vi (pnI t L J).length (isl (pnI t L J))) := fun h => ⟨h.left, h.join, h.item⟩
  obtain ⟨ct, hct⟩ : ∃ c, tcs t = c := ⟨_, rfl⟩
  have HT : Hid (tcs t = ct) := hct
  rw [hct] at HO1 HO2 HNX HPL
  obtain ⟨n, hn⟩ : ∃ n, pnT t L J = n := ⟨_, rfl⟩
  obtain ⟨cn, hcn⟩ : ∃ c, tcs n = c := ⟨_, rfl⟩
  have HC : Hid (tcs n = cn) := hcn
  obtain ⟨e, he⟩ : ∃ e, plE t L J = e := ⟨_, rfl⟩
  obtain ⟨p, hp⟩ : ∃ e, pnP t L J = e := ⟨_, rfl⟩
  obtain ⟨ll, hll⟩ : ∃ l, pnL t L J = l := ⟨_, rfl⟩
  obtain ⟨lj, hlj⟩ : ∃ l, pnJ t L J = l := ⟨_, rfl⟩
  obtain ⟨li, hli⟩ : ∃ l, pnI t L J = l := ⟨_, rfl⟩
  obtain ⟨lo, hlo⟩ : ∃ l, oLv t L J = l := ⟨_, rfl⟩
  simp only [hn, hcn, he, hp, hll, hlj, hli, hlo] at HO1 HO2 HNX HPL HRP HNP
  rw [hlo, hlj] at HLEN
  rw [he, hlo] at HOL
  rw [hll, hlj, hli] at HF
  clear hct hn hcn he hp hll hlj hli hlo rL rJ lL lJ hTb
  go_enter Tryz.func3, Tryz.ntmps3
  go_upto_region 1 with (fail)
  generalize (w.alloc (.cells (tcs t) 31)).alloc (.cells #[.slice aL L.length cL, .slice aJ J.length cJ] 34) = w0 at *
  rw [HT.out]
  obtain ⟨C, hC⟩ : ∃ C, w.heap.size + 1 = C := ⟨_, rfl⟩
  obtain ⟨B, hB⟩ : ∃ B, w.heap.size = B := ⟨_, rfl⟩
  rw [hC, hB] at hX
  rw [hC, hB]
  clear hC hB
  go_wp2_with fail
  refine hl.mono ?_
  rintro r w1 ⟨rfl, hb1⟩
  have hX1 := hX.later hb1
  clear hl hX hb1
  have h1 := HO1.out w1 hX1.bel
  have hT1 := hX1.tr
  obtain ⟨d0, d1⟩ := hX1.bt.cells
  go_wp2_with (refine rdT hT1 HT.out _ rfl rfl rfl ?_)
  refine h1.mono ?_
  rintro r w2 ⟨⟨vL, vJ, rfl, hRP⟩, hb2⟩
  obtain ⟨g1, g2⟩ := HRP.out hRP
  obtain ⟨a4, k4, rfl⟩ := owns_slice g1
  obtain ⟨a5, k5, rfl⟩ := owns_slice g2
  have hbR := below_alloc w2 (.cells #[.int .i64 n.ep, .int .i64 n.fr, .slice a4 lo.length k4, .slice a5 lj.length k5] 38)
  have hR2 := RcAt.new w2 #[.int .i64 n.ep, .int .i64 n.fr, .slice a4 lo.length k4, .slice a5 lj.length k5]
  have hX2 := (hX1.later hb2).later hbR
  have rl4 := (rdI_of g1).later hbR
  have rj4 := (rdP_of g2).later hbR
  clear h1 hX1 hT1 d0 d1 hRP hb2 g1 g2 hbR
  go_upto_region 4 with (fail)
  generalize w2.alloc (.cells #[.int .i64 n.ep, .int .i64 n.fr, .slice a4 lo.length k4, .slice a5 lj.length k5] 38) = w3 at *
  generalize w2.heap.size = R at *
  have h1 := HO2.out w3 hX2.bel
  have hT1 := hX2.tr
  obtain ⟨d0, d1⟩ := hX2.bt.cells
  go_wp2_with (refine rdT hT1 HT.out _ rfl rfl rfl ?_)
  refine h1.mono ?_
  rintro r w4 ⟨⟨a6, k6, v7, rfl, _, rl6, g7⟩, hb4⟩
  obtain ⟨a7, k7, rfl⟩ := owns_slice g7
  have hbR := below_alloc w4 (.cells #[.int .i64 n.ep, .int .i64 n.fr, .slice a6 lo.length k6, .slice a7 lj.length k7] 38)
  have hR4 := RcAt.new w4 #[.int .i64 n.ep, .int .i64 n.fr, .slice a6 lo.length k6, .slice a7 lj.length k7]
  have hX4 := (hX2.later hb4).later hbR
  have hR5 := (hR2.later hb4).later hbR
  have rl5 := (rl4.later hb4).later hbR
  have rj5 := (rj4.later hb4).later hbR
  have hsm := sr2_any n.ep n.fr n.ep n.fr a4 a5 a6 a7 k4 k5 k6 k7 lo lo lj lj _ HLEN.out.1 HLEN.out.1 HLEN.out.2 HLEN.out.2 rl5 rj5 (rl6.later hbR) ((rdP_of g7).later hbR)
  rw [sam_refl] at hsm
  clear h1 hX2 hT1 d0 d1 hb4 g7 hbR hR2 rl4 rj4 rl6
  go_upto_region 5 with (fail)
  generalize w4.alloc (.cells #[.int .i64 n.ep, .int .i64 n.fr, .slice a6 lo.length k6, .slice a7 lj.length k7] 38) = w5 at *
  generalize w4.heap.size = R' at *
  obtain ⟨c0, c1, c2, c3⟩ := hR5.cells
  obtain ⟨d0, d1, d2, d3⟩ := hR4.cells
  go_wp2_with fail
  refine hsm.mono ?_
  rintro r w6 ⟨rfl, hb6⟩
  have hX6 := hX4.later hb6
  have hR6 := hR5.later hb6
  have rl6 := rl5.later hb6
  have rj6 := rj5.later hb6
  clear hsm hX4 hR5 hR4 rl5 rj5 hb6 c0 c1 c2 c3 d0 d1 d2 d3
  by_cases he0 : e = 0
  · subst he0
    have hlo : lo = L := HOL.out rfl
    subst hlo
    have h1 := HPL.out rfl w6 a4 a5 k4 k5 hX6.bel rl6 rj6
    have hT1 := hX6.tr
    obtain ⟨c0, c1, c2, c3⟩ := hR6.cells
    go_wp2_with (refine rdT hT1 HT.out _ rfl rfl rfl ?_)
    refine h1.mono ?_
    rintro r w7 ⟨⟨vl, vj, vi, rfl, hP⟩, hb7⟩
    have hX7 := hX6.later hb7
    have g1 := hP.left
    have g2 := hP.join
    have g3 := hP.item
    obtain ⟨b1, j1, rfl⟩ := owns_slice g1
    obtain ⟨b2, j2, rfl⟩ := owns_slice g2
    obtain ⟨b3, j3, rfl⟩ := owns_slice g3
    obtain ⟨t1, t2, W, hW, tT, tR, tB⟩ := two_boxes w7 n cn #[.int .i64 p, .slice b1 ll.length j1, .slice b2 lj.length j2, .slice b3 li.length j3] HC.out
    have hX8 := hX7.later tB
    have HM : Hid (RdS W b1 ll ∧ RdS W b2 lj ∧ RdT W b3 li) := ⟨(rds_of g1).later tB, (rds_of g2).later tB, (owns_rdT g3).later tB⟩
    clear h1 hX6 hX7 hT1 hb7 c0 c1 c2 c3 hP g1 g2 g3 tB hR6 rl6 rj6
    go_upto_region 10 with (first | (show wpList _ _ _ ({ dst := _, op := Op.store 31 _ _, type := _, pos := _, after := _, guard := _ } :: _) _ _; refine stTc t1 HC.out rfl _ _ rfl rfl rfl ?_) | (show wpList _ _ _ ({ dst := _, op := Op.store 45 _ _, type := _, pos := _, after := _, guard := _ } :: _) _ _; refine stRw infoRk (cs := rkz) rkz_size t2 _ rfl (rk_one _ _ _ _ _ _ _ _ _ _) rfl _ _ rfl rfl rfl ?_))
    clear t1 t2 hW
    obtain ⟨G, hG⟩ : ∃ A, w7.heap.size + 1 = A := ⟨_, rfl⟩
    rw [hG] at tR ⊢
    clear hG
    generalize w7.heap.size = N at *
    have h1 := HNX.out W hX8.bel
    have hT1 := hX8.tr
    obtain ⟨d0, d1⟩ := hX8.bt.cells
    go_wp2_with (refine rdT hT1 HT.out _ rfl rfl rfl ?_)
    refine h1.mono ?_
    rintro r w9 ⟨⟨vl, vj, vi, rfl, hNP⟩, hb9⟩
    have hX9 := hX8.later hb9
    have tT9 := tT.later hb9
    have tR9 := RkLater tR hb9
    obtain ⟨g1, g2, g3⟩ := HNP.out hNP
    obtain ⟨e1, f1, rfl⟩ := owns_slice g1
    obtain ⟨e2, f2, rfl⟩ := owns_slice g2
    obtain ⟨e3, f3, rfl⟩ := owns_slice g3
    obtain ⟨t1, t2, V, hW, vT, vR, tB⟩ := two_boxes w9 n cn #[.int .i64 p, .slice e1 ll.length f1, .slice e2 lj.length f2, .slice e3 li.length f3] HC.out
    have HBV : Hid (Below w.heap.size w V) := (hX9.later tB).bel
    have hT5 := tT9.later tB
    have hR5 := RkLater tR9 tB
    have HM2 : Hid ((RdS V b1 ll ∧ RdS V b2 lj ∧ RdT V b3 li) ∧ (RdS V e1 ll ∧ RdS V e2 lj ∧ RdT V e3 li)) := ⟨⟨(HM.out.1.later hb9).later tB, (HM.out.2.1.later hb9).later tB, (HM.out.2.2.later hb9).later tB⟩, (rds_of g1).later tB, (rds_of g2).later tB, (owns_rdT g3).later tB⟩
    clear h1 hX8 hX9 hT1 hb9 d0 d1 hNP g1 g2 g3 tB HM tT tR tT9 tR9
    go_upto_region 11 with (first | (show wpList _ _ _ ({ dst := _, op := Op.store 31 _ _, type := _, pos := _, after := _, guard := _ } :: _) _ _; refine stTc t1 HC.out rfl _ _ rfl rfl rfl ?_) | (show wpList _ _ _ ({ dst := _, op := Op.store 45 _ _, type := _, pos := _, after := _, guard := _ } :: _) _ _; refine stRw infoRk (cs := rkz) rkz_size t2 _ rfl (rk_one _ _ _ _ _ _ _ _ _ _) rfl _ _ rfl rfl rfl ?_))
    clear t1 t2 hW
    obtain ⟨G', hG⟩ : ∃ A, w9.heap.size + 1 = A := ⟨_, rfl⟩
    rw [hG] at vR ⊢
    clear hG
    generalize w9.heap.size = M at *
    have hsm := same_any p b1 b2 b3 e1 e2 e3 j1 j2 j3 f1 f2 f3 ll lj li V HF.out.1 HF.out.2.1 HF.out.2.2 HM2.out.1.1 HM2.out.1.2.1 HM2.out.1.2.2 HM2.out.2.1 HM2.out.2.2.1 HM2.out.2.2.2
    obtain ⟨r0, r1, r2, r3⟩ := RkCells hR5
    obtain ⟨s0, s1, s2, s3⟩ := RkCells vR
    have HEQ : Hid (eqT n n = true) := eqT_refl n
    clear HM2
    go_wp2_with (first | (refine rdT hT5 HC.out _ rfl rfl rfl ?_) | (refine rdT vT HC.out _ rfl rfl rfl ?_) | (refine eqTr HC.out HC.out HEQ.out _ _ rfl rfl rfl rfl ?_))
    refine hsm.mono ?_
    rintro r w10 ⟨rfl, hb10⟩
    clear hsm hT5 hR5 vT vR r0 r1 r2 r3 s0 s1 s2 s3
    go_wp2_with fail
    go_ret
    exact ⟨rfl, HBV.out.trans (hb10.mono HBV.out.size)⟩
  · have hd2 : (e != 0) = true := by simpa using he0
    have HB6 : Hid (Below w.heap.size w w6) := hX6.bel
    clear hX6 hR6 rl6 rj6 he0
    go_wp2_with fail
    go_ret
    exact ⟨rfl, HB6.out⟩
theorem own : ownKnob Tryz.prog.godebug = none := by kernel_rfl
theorem laidOut : laidOutB Tryz.prog = true := by kernel_rfl
set_option maxRecDepth 20000 in
theorem contract (H : Type) (enc : TypeId × Value → H) (W : World) (base : Nat) (args : Array Value) (ds gs : List (DataW H)) (before : List MemPlace)
    (hval : ∀ (j : Nat) t v, Tryz.f3.params[j]? = some t → args[j]? = some v → Value.okWide Tryz.prog W .any base t v)
    (hW : DataW.Whole enc Tryz.prog Tryz.f3.params.toList Rows.recordOfSpec.vars false W args.toList ds gs before)
    (hsz : (DataW.weightsEach Tryz.prog (Tryz.f3.params.toList ++ Rows.recordOfSpec.plain.varTypes Tryz.prog) (ds ++ gs)).all (· ≤ reachBytes) = true)
    (hL : laidMetH Tryz.prog Rows.recordOfRow.laid W) :
    Calls Tryz.prog 3 args W fun e W' => ∃ v, e = .returned v ∧ Rows.recordOfSpec.post enc Tryz.prog Tryz.f3 false true false false W args v W' := by
  have hv := vs_of hL
  have hW' := hW
  obtain ⟨p, q, hA0, hV, rfl, hfz, hnd⟩ := hW
  have hA : DataW.TrodAll enc Tryz.prog W 0 (fun _ => true) true Tryz.f3.params.toList args.toList ds p := hA0
  rw [Tryz.params3] at hA hval hsz
  obtain ⟨v0, vs0, d0, ds0, p0, q0, hargs, rfl, rfl, h0, r0⟩ := trodAll_cons hA
  obtain ⟨v1, vs1, d1, ds1, p1, q1, rfl, rfl, rfl, h1, r1⟩ := trodAll_cons r0
  obtain ⟨rfl, rfl, rfl⟩ := trodAll_nil r1
  obtain rfl : args = #[v0, v1] := by cases args; simp_all
  obtain ⟨rfl, rfl⟩ := trodVars_none hV
  have k0 := h0
  have lt0 : ∀ x ∈ p0, x.block < W.heap.size := by obtain ⟨m, hm⟩ := k0; exact DataW.trod_lt m _ _ _ hm
  obtain ⟨f0, rfl⟩ := open_tr (hval 0 31 v0 rfl rfl) h0
  have k1 := h1
  have lt1 : ∀ x ∈ p1, x.block < W.heap.size := by obtain ⟨m, hm⟩ := k1; exact DataW.trod_lt m _ _ _ hm
  obtain ⟨aL1, aJ1, cL1, cJ1, L1, J1, rfl, rL1, rJ1, lL1, lJ1⟩ := open_bt (fun parts e => sized_agg hsz (j := 1) (t := 34) rfl (by rw [← e]; rfl) Tryz.underlying34) (hval 1 34 v1 rfl rfl) h1
  clear hA0
  refine (walk f0 aL1 aJ1 cL1 cJ1 L1 J1 W rL1 rJ1 lL1 lJ1 hv).mono fun e W' ⟨he, bel⟩ => ?_
  subst he
  exact ⟨_, rfl, _, _, _, [], _, [], hW', trodAll_mk1 (shut_bool Tryz.underlying4 _), (trodAll_cons_mk (Below.trod laidOut (by kernel_rfl) (of_decide_eq_true (by kernel_rfl)) k0 bel lt0) (trodAll_cons_mk (Below.trod laidOut (by kernel_rfl) (of_decide_eq_true (by kernel_rfl)) k1 bel lt1) trodAll_mk0)), rfl, bel.frame _, fun h => by cases h⟩
set_option maxRecDepth 100000 in
theorem laid_met (os : Os) : laidMet Tryz.prog Rows.recordOfRow.laid ((laidWorld os).forCall (fun _ _ => 0) ⟨#[], #[.agg (tcs (tz 0)), .agg #[.slice none 0 0, .slice none 0 0]], []⟩).memory :=
  laidMet_of_run' 8 (by kernel_rfl) (by kernel_rfl)
set_option maxRecDepth 100000 in
theorem reads (os : Os) {H : Type} (enc : TypeId × Value → H) : ∃ places, DataW.whole enc Tryz.prog ((laidWorld os).forCall (fun _ _ => 0) ⟨#[], #[.agg (tcs (tz 0)), .agg #[.slice none 0 0, .slice none 0 0]], []⟩).memory Tryz.f3.params.toList Rows.recordOfSpec.vars false (#[.agg (tcs (tz 0)), .agg #[.slice none 0 0, .slice none 0 0]] : Array Value).toList 8 = some ([trD, .agg [.nil, .nil]], [], places) :=
  ⟨[], by kernel_rfl⟩
set_option maxRecDepth 100000 in
theorem lifted (os : Os) (started : os.Started) (H : Type) (enc : TypeId × Value → H) (F : Stop.Interp) :
    ReturnsInHanded {} Tryz.checked os 3 .any ((OpenSpec.ofChange Rows.recordOfSpec).preRow enc Tryz.prog Tryz.f3 Rows.recordOfRow.domain false Rows.recordOfRow.laid) (((OpenSpec.ofChange Rows.recordOfSpec).at F).post enc Tryz.prog Tryz.f3 false true false false) := by
  obtain ⟨places, hx⟩ := reads os enc
  refine returnsInHanded_of_row (C := Tryz.checked) (s := (OpenSpec.ofChange Rows.recordOfSpec)) own started (by kernel_rfl) Tryz.func3
    (witness_row_at (enc := enc) (C := Tryz.checked) false (laidWorld os) #[.agg (tcs (tz 0)), .agg #[.slice none 0 0, .slice none 0 0]] rfl (by kernel_rfl) (by kernel_rfl) (by kernel_rfl)
      (OpenSpec.preRow_of_cond 8 hx (by kernel_rfl) (fun k hk => by cases hk) (by kernel_rfl) (laid_met os))) ?_
  intro W base args ds gs before hval hW hc1 hc2 hsz hL hsh _
  exact contract H enc W base args ds gs before hval hW hsz hL
theorem said : Rows.RecordOfSaid :=
  OpenClaim.holds_of_cond 3 Tryz.f3 rfl rfl rfl rfl rfl rfl rfl ⟨rfl, rfl, rfl, rfl, rfl⟩ rfl rfl rfl rfl rfl (by kernel_rfl) Tryz.func3 (by kernel_rfl)
    (of_decide_eq_true (by kernel_rfl)) (by unfold Func.isWrapper; first | (rw [if_pos (by decide +kernel)]; kernel_rfl) | (rw [if_neg (by decide +kernel)]; exact ⟨rfl, rfl⟩))
    (fun os started H enc _ F => by rw [OpenClaim.pre_eq_preRow]; exact lifted os started H enc F)
theorem plain (f : FuncId) (fn : Func) (hf : Tryz.pinned.checked.prog.funcNamed "coterie/coterielaw13.RecordOf" = some f) (hfn : Tryz.pinned.checked.prog.funcs[f]? = some fn) :
    false = Tryz.pinned.checked.prog.looks [] ∧ ∀ (j : Nat) t, fn.params[j]? = some t → Tryz.pinned.checked.prog.wantsStandIn t = false := by
  obtain rfl : f = 3 := Option.some.inj ((show Tryz.prog.funcNamed "coterie/coterielaw13.RecordOf" = some 3 by kernel_rfl).symm.trans hf) |>.symm
  obtain rfl : fn = Tryz.f3 := (Option.some.inj (Tryz.func3.symm.trans hfn)).symm
  refine ⟨by kernel_rfl, fun j t ht => ?_⟩
  rw [Tryz.params3] at ht
  have h31 : Tryz.prog.wantsStandIn 31 = false := by kernel_rfl
  have h34 : Tryz.prog.wantsStandIn 34 = false := by kernel_rfl
  have hm := Array.mem_of_getElem? ht
  simp at hm
  rcases hm with rfl | rfl
  · exact h31
  · exact h34
end Go.Proofs.YteocfmimgoocnaaGreatDoor.recordOf
namespace Go.Proofs.YteocfmimgoocnaaGreatDoor
theorem recordOf_holds : Rows.RecordOfCardSaid :=
  Claim7.holds_tied_plain_at .later [] _ _ _ _ recordOf.said (fun _ h => by cases h) (by kernel_rfl) (fun _ h => by cases h) recordOf_row_tie rfl ⟨rfl, rfl⟩ (by kernel_rfl) rfl recordOf.plain (by kernel_rfl)
#print axioms recordOf_holds
end Go.Proofs.YteocfmimgoocnaaGreatDoor
