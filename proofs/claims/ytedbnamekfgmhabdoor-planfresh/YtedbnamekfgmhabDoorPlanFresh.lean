/- For every tree and every batch: of plan.Next's new tree the replaced nodes' keys and the joiners' entries have the names from the old Fresh on, each once, all other keys keep their names: PlanFresh, in its first form (the listed variable as the program's text lays it), and the card. -/
import Derived.Test.YtedbnamekfgmhabDoorCards
import Derived.Test.YtedbnamekfgmhabDoorTie
import Derived.Test.YtedbnamekfgmhabDoorPlU
import Derived.Test.YtedbnamekfgmhabDoorRsK
import Derived.Test.YtedbnamekfgmhabDoorOpenTr
import Derived.WalkKit
import Derived.ProofKit
import Derived.OpenShut
import Derived.Deep.DeepHandedRow
import Derived.Deep.DeepWitnessRowRef
import Derived.SizedLaws
namespace Go.Proofs.YtedbnamekfgmhabDoor.planFresh
open Go.ChangeShapes Go.WideShapes Go.ChangeAt Go.RowKit Go.Maps Go.Shelf
open Rt (Ky KyAt cu cd)
open Rs (tkn En zE rcs RdI RdS ps Tb tb_of laidWorld open_bt sized_agg roD bytesI open_sl evl)
set_option linter.unusedVariables false
set_option linter.unusedSimpArgs false

theorem vs_of {W : World} (hL : laidMetH Tryd.prog Rows.planFreshRow.laid W) : Tb W := tb_of (show laidMet Tryd.prog Rows.planFreshRow.laid W from hL)
def trD {H : Type} : DataW H := .agg [.lit (.int .i64 0), .lit (.int .i64 0), .agg (List.replicate 21 (.agg [.lit (.int .i64 0), .lit (.int .i64 0)])), roD]
set_option maxRecDepth 100000 in
set_option maxHeartbeats 4000000 in
theorem walk (t : Tr) (aL aJ : Option Addr) (cL cJ : Nat) (L J : List Int) (w : World) (rL : RdI w aL L) (rJ : RdI w aJ J) (lL : L.length * 8 ≤ 140737488351232) (lJ : J.length * 8 ≤ 140737488351232) (hTb : Tb w) :
    Calls Tryd.prog 3 #[.agg (tcs t), .agg #[.slice aL L.length cL, .slice aJ J.length cJ] ] w fun e w' => e = .returned (.bool true) ∧ Below w.heap.size w w' := by
  have hX := TB.new w t aL aJ L.length J.length cL cJ
  obtain ⟨ct, hct⟩ : ∃ c, tcs t = c := ⟨_, rfl⟩
  have HT : Hid (tcs t = ct) := hct
  clear hct
  go_enter Tryd.func3, Tryd.ntmps3
  go_upto_region 1 with (fail)
  generalize (w.alloc (.cells (tcs t) 31)).alloc (.cells #[.slice aL L.length cL, .slice aJ J.length cJ] 34) = w0 at *
  rw [HT.out]
  obtain ⟨C0, hC⟩ : ∃ C, w.heap.size + 1 = C := ⟨_, rfl⟩
  rw [hC] at hX ⊢
  obtain ⟨B, hB⟩ : ∃ B, w.heap.size = B := ⟨_, rfl⟩
  rw [hB] at hX ⊢
  clear hC hB
  have hl := lives_any w0 (hTb.later hX.bel)
  go_wp2_with fail
  refine hl.mono ?_
  rintro r w1 ⟨rfl, hb1⟩
  have hX1 := hX.later hb1
  clear hl hX hb1
  have h1 := next_any t aL aJ cL cJ L J w1 (hTb.later hX1.bel) (by omega) (by omega) (rL.later hX1.bel) (rJ.later hX1.bel)
  rw [HT.out] at h1
  have hT1 := hX1.tr
  obtain ⟨d0, d1⟩ := hX1.bt.cells
  go_wp2_with (refine rdT hT1 HT.out _ rfl rfl rfl ?_)
  refine h1.mono ?_
  rintro r w2 ⟨⟨vl, vj, vi, rfl, hNP⟩, hb2⟩
  have hX2 := hX1.later hb2
  have g1 := hNP.left
  have g2 := hNP.join
  have g3 := hNP.item
  obtain ⟨a1, k1, rfl⟩ := Rs.owns_slice g1
  obtain ⟨a2, k2, rfl⟩ := Rs.owns_slice g2
  obtain ⟨a3, k3, rfl⟩ := Rs.owns_slice g3
  have m1 := rds_of g1
  have m2 := rds_of g2
  have m3 := owns_rdT g3
  have f1 := pnL_len t L J
  have f2 := pnJ_len t L J
  have f3 := pnI_short t L J
  have HOK : Hid (plE t L J = 0 → Stp t L J ∧ pnT t L J = nx t L J ∧ pnL t L J = evl t.ro L ∧ pnJ t L J = jns t L J ∧ pnI t L J = its (nx t L J) (plR t L) (jns t L J)) := fun h => by
    refine ⟨plE_stp h, ?_, ?_, ?_, ?_⟩
    · unfold pnT; rw [if_pos h]
    · unfold pnL; rw [if_pos h]
    · unfold pnJ; rw [if_pos h]
    · unfold pnI; rw [if_pos h]
  obtain ⟨n, hn⟩ : ∃ n, pnT t L J = n := ⟨_, rfl⟩
  obtain ⟨ll, hll⟩ : ∃ l, pnL t L J = l := ⟨_, rfl⟩
  obtain ⟨lj, hlj⟩ : ∃ l, pnJ t L J = l := ⟨_, rfl⟩
  obtain ⟨li, hli⟩ : ∃ l, pnI t L J = l := ⟨_, rfl⟩
  obtain ⟨e, he⟩ : ∃ e, plE t L J = e := ⟨_, rfl⟩
  obtain ⟨p, hp⟩ : ∃ e, pnP t L J = e := ⟨_, rfl⟩
  rw [hll, hlj, hli, he, hp, hn]
  rw [hll] at m1 f1 HOK
  rw [hlj] at m2 f2 HOK
  rw [hli] at m3 f3 HOK
  rw [he, hn] at HOK
  obtain ⟨cn, hcn⟩ : ∃ c, tcs n = c := ⟨_, rfl⟩
  have HC : Hid (tcs n = cn) := hcn
  rw [hcn]
  obtain ⟨t1, t2, W, hW, tT, tR, tB⟩ := two_boxes w2 n cn #[.int .i64 p, .slice a1 ll.length k1, .slice a2 lj.length k2, .slice a3 li.length k3] hcn
  have hX3 := hX2.later tB
  have HM : Hid (RdS W a1 ll ∧ RdS W a2 lj ∧ RdT W a3 li) := ⟨m1.later tB, m2.later tB, m3.later tB⟩
  have HLN : Hid (ll.length ≤ 64 ∧ lj.length ≤ 64 ∧ li.length ≤ 4096) := ⟨f1, f2, f3⟩
  clear h1 hX1 hX2 hT1 hb2 d0 d1 hNP hn hll hlj hli he hp hcn tB f1 f2 f3 g1 g2 g3 m1 m2 m3
  go_upto_region 4 with (first | (refine stTc t1 HC.out rfl _ _ rfl rfl rfl ?_) | (refine stRw infoRk (cs := rkz) rkz_size t2 _ rfl (rk_one _ _ _ _ _ _ _ _ _ _) rfl _ _ rfl rfl rfl ?_))
  clear t1 t2 hW
  generalize w2.heap.size = N at *
  by_cases he0 : e = 0
  · subst he0
    obtain ⟨hst, en, el, ej, ei⟩ := HOK.out rfl
    have HST : Hid (Stp t L J) := hst
    have HEN : Hid (n = nx t L J ∧ ll = evl t.ro L ∧ lj = jns t L J ∧ li = its (nx t L J) (plR t L) (jns t L J)) := ⟨en, el, ej, ei⟩
    have htn : tck n = true := by rw [en]; exact hst.tckn
    have htk : tck t = true := hst.ok
    have hmm := @run_makeMap Tryd.prog
    have HTT : Hid (TrAt W N n) := tT
    have HTR : Hid (RkAt W (N + 1) #[.int .i64 p, .slice a1 ll.length k1, .slice a2 lj.length k2, .slice a3 li.length k3]) := tR
    have HX3 : Hid (TB w W B C0 t aL aJ L.length J.length cL cJ) := hX3
    obtain ⟨r, hr⟩ : ∃ r, plR t L = r := ⟨_, rfl⟩
    have HRP : Hid (rp ll = r) := by unfold Hid; rw [el]; exact hr
    have HR4 : Hid (r < 4294967296) := by unfold Hid; have := plR_lt t L; omega
    have HKEY : Hid (∀ v, v < 21 → (r.testBit v = true → (n.ks v).bas = t.fr + ((cd r (20 - v) : Nat) : Int)) ∧ (r.testBit v = false → n.ks v = ⟨(t.ks v).bas, (t.ks v).stp + 1⟩) ∧ Rt.Gd (n.ks v).bas (n.ks v).stp ∧ Rt.Gd (t.ks v).bas (t.ks v).stp) := fun v hv => by
      rw [en]
      refine ⟨fun hb => ?_, fun hb => ?_, ks_gd hst.tckn hv, ks_gd hst.ok hv⟩
      · rcases hst.key hv with ⟨_, h2, _⟩ | ⟨h1, _⟩
        · rw [h2, hr]
        · rw [hr, hb] at h1; cases h1
      · rcases hst.key hv with ⟨h1, _⟩ | ⟨_, h2⟩
        · rw [hr, hb] at h1; cases h1
        · exact h2
    have HPF : Hid (plF t L = t.fr + ((cu r 21 : Nat) : Int)) := by unfold Hid plF; rw [hr]
    have HFR : Hid (22 ≤ t.fr ∧ t.fr ≤ 32768 ∧ lj.length = J.length ∧ n.fr = t.fr + ((cu r 21 : Nat) : Int) + (lj.length : Int)) := by
      refine ⟨hst.rt.f0, hst.rt.f1, by rw [ej, jns_len], ?_⟩
      rw [en, ej, jns_len, ← HPF.out]
      rfl
    clear hst en el ej ei HOK tT tR hX3 hr
    go_upto_region 7 with (fail)
    have HDM : Hid (DM W (W.alloc (.map #[] 0)) W.heap.size 0 (hct [])) := ⟨by rw [hct_nil]; exact Mh.new W, below_alloc _ _, Nat.le_refl _⟩
    clear hmm
    generalize W.alloc (.map #[] 0) = w3 at *
    obtain ⟨b, hb⟩ : ∃ b, W.heap.size = b := ⟨_, rfl⟩
    rw [hb] at HDM
    rw [hb]
    clear hb
    go_wp2_with fail
    go_loopw [9, 10] (fun c i wx => ∃ v nn : Nat, v ≤ 21 ∧ i = .int .i64 (v : Int) ∧ c = .int .i64 ((cu r v : Nat) : Int) ∧ nn ≤ v ∧ DM W wx b nn (hct (nms r t.fr v))) (fun _ i _ => 21 - (intOf i).toNat)
    case atStart => exact ⟨0, 0, by omega, rfl, rfl, by omega, HDM.out⟩
    case round =>
      obtain ⟨v, nn, hv, rfl, rfl, hnn, hDM⟩ := hrel
      have HD : Hid (DM W wr b nn (hct (nms r t.fr v))) := hDM
      clear hDM HDM
      have hcu := Rt.cu_le r v
      by_cases hv21 : v < 21
      · have v0 : (0 : Int) ≤ (v : Int) := by omega
        have v1 : (v : Int) < 21 := by omega
        obtain ⟨g1, g2, g3, g4⟩ := HKEY.out v hv21
        obtain ⟨c0, c1⟩ := (HTT.out.later HD.out.bel).key v hv21
        obtain ⟨k, hk⟩ : ∃ k, n.ks v = k := ⟨_, rfl⟩
        obtain ⟨o, ho⟩ : ∃ k, t.ks v = k := ⟨_, rfl⟩
        rw [hk] at g1 g2 g3 c0 c1
        rw [ho] at g2 g4
        have HTO : Hid (t.ks v = o) := ho
        have HG1 : Hid (r.testBit v = true → k.bas = t.fr + ((cd r (20 - v) : Nat) : Int)) := g1
        have HG2 : Hid (r.testBit v = false → k = ⟨o.bas, o.stp + 1⟩) := g2
        have HG3 : Hid (Wi k.bas ∧ Wi k.stp) := wi_gd g3
        have HG4 : Hid (Rt.Gd o.bas o.stp) := g4
        have HSN : Hid (cu r (v + 1) = cu r v + Rt.b1 r v ∧ nms r t.fr (v + 1) = nms r t.fr v ++ if r.testBit v then [t.fr + ((cd r (20 - v) : Nat) : Int)] else []) := ⟨rfl, rfl⟩
        clear hk ho g1 g2 g3 g4
        have HD1 : Hid (DM W (wr.alloc (.cells #[.int .i64 k.bas, .int .i64 k.stp] 23)) b nn (hct (nms r t.fr v))) := HD.out.later (below_alloc _ _)
        have hky := Rt.KyAt.new wr k
        clear HD
        go_upto_region 12 with (fail)
        clear c0 c1
        generalize wr.alloc (.cells #[.int .i64 k.bas, .int .i64 k.stp] 23) = w5 at *
        generalize wr.heap.size = K at *
        have HKY : Hid (KyAt w5 K k) := hky
        clear hky
        obtain ⟨r0, r1, r2, r3⟩ := (HTR.out.later HD1.out.bel).cells
        have hrp := replaced_any a1 k1 ll w5 (by have := HLN.out.1; omega) (HM.out.1.later HD1.out.bel)
        rw [HRP.out] at hrp
        have hin := Rt.rIn_any r v HR4.out (by omega)
        go_wp2_with fail
        refine hrp.mono ?_
        rintro z w6 ⟨rfl, hb6⟩
        have HD2 : Hid (DM W w6 b nn (hct (nms r t.fr v))) := HD1.out.later hb6
        have HK2 : Hid (KyAt w6 K k) := HKY.out.later hb6
        clear hrp r0 r1 r2 r3 HD1 HKY hb6
        go_wp2_with fail
        refine (hin _).mono ?_
        rintro z w6 ⟨rfl, rfl⟩
        clear hin
        obtain ⟨x0, x1⟩ := HK2.out.cells
        cases hb : r.testBit v with
        | true =>
          have HKB : Hid (k.bas = t.fr + ((cd r (20 - v) : Nat) : Int)) := HG1.out hb
          have HS2 : Hid (cu r (v + 1) = cu r v + 1 ∧ nms r t.fr (v + 1) = nms r t.fr v ++ [k.bas]) := by
            refine ⟨?_, ?_⟩
            · rw [HSN.out.1]; unfold Rt.b1; rw [if_pos hb]
            · rw [HSN.out.2, if_pos hb, HKB.out]
          have hlk := look0 HD2.out.mh HG3.out.1
          rw [hct_get] at hlk
          have HCT : Hid (hct (nms r t.fr v ++ [k.bas]) = hup (hct (nms r t.fr v)) k.bas (((nms r t.fr v).count k.bas : Nat) + 1 : Int)) := hct_snoc _ _
          have hlen := List.count_le_length (a := k.bas) (l := nms r t.fr v)
          have hln2 := nms_len r t.fr v
          obtain ⟨cn1, hcn1⟩ : ∃ c, (nms r t.fr v).count k.bas = c := ⟨_, rfl⟩
          rw [hcn1] at hlk HCT hlen
          have hw1 : IntKind.i64.wrap ((cn1 : Int) + 1) = (cn1 : Int) + 1 := Rs.i64_fit _ (by omega) (by omega)
          have hwi : Wi ((cn1 : Int) + 1) := wi_of (by omega) (by omega)
          have hwb : Wi k.bas := HG3.out.1
          have hw2 : IntKind.i64.wrap (((cu r v : Nat) : Int) + 1) = ((cu r v : Nat) : Int) + 1 := Rs.i64_fit _ (by omega) (by omega)
          have hn62 : nn < 4611686018427387904 := by omega
          clear hcn1 hlen hln2 HG1 HG2 HSN hb
          go_wp2_with (refine HD2.out.mh.upd hn62 hwb hwi rfl _ _ _ rfl rfl rfl rfl ?_; intro w' hm' hg')
          go_roundw
          case rel => exact ⟨v + 1, nn + 1, by omega, by go_num, by rw [HS2.out.1]; push_cast; rfl, by omega, by rw [HS2.out.2, HCT.out]; exact HD2.out.upd hm' hg'⟩
          case measure => simp [intOf]; omega
        | false =>
          have hk := HG2.out hb
          have HS2 : Hid (cu r (v + 1) = cu r v ∧ nms r t.fr (v + 1) = nms r t.fr v) := by
            refine ⟨?_, ?_⟩
            · rw [HSN.out.1]; unfold Rt.b1; rw [if_neg (by rw [hb]; simp)]; rfl
            · rw [HSN.out.2, if_neg (by rw [hb]; simp), List.append_nil]
          subst hk
          dsimp only at x0 x1
          obtain ⟨y0, y1⟩ := (HX3.out.tr.later HD2.out.bel).key v hv21
          rw [HTO.out] at y0 y1
          obtain ⟨q1, q2, q3, q4⟩ := HG4.out
          have hw0 : IntKind.i64.wrap (o.stp + 1) = o.stp + 1 := Rs.i64_fit _ (by omega) (by omega)
          obtain ⟨os, hos⟩ : ∃ os, o.stp + 1 = os := ⟨_, rfl⟩
          have hw1 : IntKind.i64.wrap (o.stp + 1) = os := hw0.trans hos
          have HKO : Hid (KyAt w6 K ⟨o.bas, os⟩) := hos ▸ HK2.out
          have HBT : Hid (TrAt w6 B t) := HX3.out.tr.later HD2.out.bel
          clear HG1 HG2 HG3 HG4 HSN hb q1 q2 q3 q4 hos HK2 hw0 x0 x1 y0 y1
          go_upto_region 15 with (fail)
          have hS0 : Below w6.heap.size w6 w6.drew := drew_below _
          refine wp_region_held_drew (S := fun X => Below w6.heap.size w6 X) (by kernel_rfl) hS0 (fun hHeld => ?_)
          refine wpAnyH_take (i := 0) (oi := { dst := some 47, op := Op.fieldAddr 23 (Operand.tmp 11) 0, type := _, pos := _, after := _, guard := none }) (v := .pointer (some ⟨K, 0, none⟩)) rfl (by kernel_rfl) (by kernel_rfl) (by kernel_rfl) (fun _ _ _ h => h) (Or.inl ⟨by rfl, fun w hSw => by (try dsimp only at hSw); go_simp⟩) (by assumption) ?_
          simp only [Act.put, List.setIfInBounds_toArray, List.set_cons_zero, List.set_cons_succ]
          refine wpAnyH_take (i := 1) (oi := { dst := some 48, op := Op.load 3 (Operand.tmp 47), type := _, pos := _, after := _, guard := none }) (v := .int .i64 o.bas) rfl (by kernel_rfl) (by kernel_rfl) (by kernel_rfl) (fun _ _ _ h => h) (Or.inl ⟨by rfl, fun w hSw => by obtain ⟨x0, x1⟩ := (HKO.out.later hSw).cells; clear hSw; go_simp⟩) (by assumption) ?_
          simp only [Act.put, List.setIfInBounds_toArray, List.set_cons_zero, List.set_cons_succ]
          refine wpAnyH_take (i := 2) (oi := { dst := some 49, op := Op.move (Operand.tmp 10), type := _, pos := _, after := _, guard := none }) (v := .int .i64 (v : Int)) rfl (by kernel_rfl) (by kernel_rfl) (by kernel_rfl) (fun _ _ _ h => h) (Or.inl ⟨by rfl, fun w hSw => by (try dsimp only at hSw); go_simp⟩) (by assumption) ?_
          simp only [Act.put, List.setIfInBounds_toArray, List.set_cons_zero, List.set_cons_succ]
          refine wpAnyH_take (i := 3) (oi := { dst := some 50, op := Op.fieldAddr 31 (Operand.tmp 2) 2, type := _, pos := _, after := _, guard := none }) (v := .pointer (some ⟨B, 2, none⟩)) rfl (by kernel_rfl) (by kernel_rfl) (by kernel_rfl) (fun _ _ _ h => h) (Or.inl ⟨by rfl, fun w hSw => by (try dsimp only at hSw); go_simp⟩) (by assumption) ?_
          simp only [Act.put, List.setIfInBounds_toArray, List.set_cons_zero, List.set_cons_succ]
          refine wpAnyH_take (i := 4) (oi := { dst := some 51, op := Op.indexAddr 25 (Operand.tmp 50) (Operand.tmp 49), type := _, pos := _, after := _, guard := none }) (v := .pointer (some ⟨B, 2 + v * 2, none⟩)) rfl (by kernel_rfl) (by kernel_rfl) (by kernel_rfl) (fun _ _ _ h => h) (Or.inl ⟨by rfl, fun w hSw => by (try dsimp only at hSw); go_simp⟩) (by assumption) ?_
          simp only [Act.put, List.setIfInBounds_toArray, List.set_cons_zero, List.set_cons_succ]
          refine wpAnyH_take (i := 5) (oi := { dst := some 52, op := Op.fieldAddr 23 (Operand.tmp 51) 0, type := _, pos := _, after := _, guard := none }) (v := .pointer (some ⟨B, 2 + v * 2, none⟩)) rfl (by kernel_rfl) (by kernel_rfl) (by kernel_rfl) (fun _ _ _ h => h) (Or.inl ⟨by rfl, fun w hSw => by (try dsimp only at hSw); go_simp⟩) (by assumption) ?_
          simp only [Act.put, List.setIfInBounds_toArray, List.set_cons_zero, List.set_cons_succ]
          refine wpAnyH_take (i := 6) (oi := { dst := some 53, op := Op.load 3 (Operand.tmp 52), type := _, pos := _, after := _, guard := none }) (v := .int .i64 o.bas) rfl (by kernel_rfl) (by kernel_rfl) (by kernel_rfl) (fun _ _ _ h => h) (Or.inl ⟨by rfl, fun w hSw => by obtain ⟨x0, x1⟩ := (HBT.out.later hSw).key v hv21; rw [HTO.out] at x0 x1; clear hSw; go_simp⟩) (by assumption) ?_
          simp only [Act.put, List.setIfInBounds_toArray, List.set_cons_zero, List.set_cons_succ]
          refine wpAnyH_take (i := 7) (oi := { dst := some 54, op := Op.binOp BinOp.neq 3 (Operand.tmp 48) (Operand.tmp 53) 3, type := _, pos := _, after := _, guard := none }) (v := .bool false) rfl (by kernel_rfl) (by kernel_rfl) (by kernel_rfl) (fun _ _ _ h => h) (Or.inl ⟨by rfl, fun w hSw => by (try dsimp only at hSw); go_simp⟩) (by assumption) ?_
          simp only [Act.put, List.setIfInBounds_toArray, List.set_cons_zero, List.set_cons_succ]
          refine wpAnyH_take (i := 8) (oi := { dst := some 55, op := Op.move (Operand.tmp 54), type := _, pos := _, after := _, guard := none }) (v := .bool false) rfl (by kernel_rfl) (by kernel_rfl) (by kernel_rfl) (fun _ _ _ h => h) (Or.inl ⟨by rfl, fun w hSw => by (try dsimp only at hSw); go_simp⟩) (by assumption) ?_
          simp only [Act.put, List.setIfInBounds_toArray, List.set_cons_zero, List.set_cons_succ]
          refine wpAnyH_take (i := 9) (oi := { dst := some 56, op := Op.fieldAddr 23 (Operand.tmp 11) 1, type := _, pos := _, after := _, guard := some (8, false) }) (v := .pointer (some ⟨K, 1, none⟩)) rfl (by kernel_rfl) (by kernel_rfl) (by kernel_rfl) (fun _ _ _ h => h) (Or.inl ⟨by rfl, fun w hSw => by (try dsimp only at hSw); go_simp⟩) (by assumption) ?_
          simp only [Act.put, List.setIfInBounds_toArray, List.set_cons_zero, List.set_cons_succ]
          refine wpAnyH_take (i := 10) (oi := { dst := some 57, op := Op.load 3 (Operand.tmp 56), type := _, pos := _, after := _, guard := some (8, false) }) (v := .int .i64 os) rfl (by kernel_rfl) (by kernel_rfl) (by kernel_rfl) (fun _ _ _ h => h) (Or.inl ⟨by rfl, fun w hSw => by obtain ⟨x0, x1⟩ := (HKO.out.later hSw).cells; clear hSw; go_simp⟩) (by assumption) ?_
          simp only [Act.put, List.setIfInBounds_toArray, List.set_cons_zero, List.set_cons_succ]
          refine wpAnyH_take (i := 11) (oi := { dst := some 58, op := Op.move (Operand.tmp 10), type := _, pos := _, after := _, guard := some (8, false) }) (v := .int .i64 (v : Int)) rfl (by kernel_rfl) (by kernel_rfl) (by kernel_rfl) (fun _ _ _ h => h) (Or.inl ⟨by rfl, fun w hSw => by (try dsimp only at hSw); go_simp⟩) (by assumption) ?_
          simp only [Act.put, List.setIfInBounds_toArray, List.set_cons_zero, List.set_cons_succ]
          refine wpAnyH_take (i := 12) (oi := { dst := some 59, op := Op.fieldAddr 31 (Operand.tmp 2) 2, type := _, pos := _, after := _, guard := some (8, false) }) (v := .pointer (some ⟨B, 2, none⟩)) rfl (by kernel_rfl) (by kernel_rfl) (by kernel_rfl) (fun _ _ _ h => h) (Or.inl ⟨by rfl, fun w hSw => by (try dsimp only at hSw); go_simp⟩) (by assumption) ?_
          simp only [Act.put, List.setIfInBounds_toArray, List.set_cons_zero, List.set_cons_succ]
          refine wpAnyH_take (i := 13) (oi := { dst := some 60, op := Op.indexAddr 25 (Operand.tmp 59) (Operand.tmp 58), type := _, pos := _, after := _, guard := some (8, false) }) (v := .pointer (some ⟨B, 2 + v * 2, none⟩)) rfl (by kernel_rfl) (by kernel_rfl) (by kernel_rfl) (fun _ _ _ h => h) (Or.inl ⟨by rfl, fun w hSw => by (try dsimp only at hSw); go_simp⟩) (by assumption) ?_
          simp only [Act.put, List.setIfInBounds_toArray, List.set_cons_zero, List.set_cons_succ]
          refine wpAnyH_take (i := 14) (oi := { dst := some 61, op := Op.fieldAddr 23 (Operand.tmp 60) 1, type := _, pos := _, after := _, guard := some (8, false) }) (v := .pointer (some ⟨B, 2 + v * 2 + 1, none⟩)) rfl (by kernel_rfl) (by kernel_rfl) (by kernel_rfl) (fun _ _ _ h => h) (Or.inl ⟨by rfl, fun w hSw => by (try dsimp only at hSw); go_simp⟩) (by assumption) ?_
          simp only [Act.put, List.setIfInBounds_toArray, List.set_cons_zero, List.set_cons_succ]
          refine wpAnyH_take (i := 15) (oi := { dst := some 62, op := Op.load 3 (Operand.tmp 61), type := _, pos := _, after := _, guard := some (8, false) }) (v := .int .i64 o.stp) rfl (by kernel_rfl) (by kernel_rfl) (by kernel_rfl) (fun _ _ _ h => h) (Or.inl ⟨by rfl, fun w hSw => by obtain ⟨x0, x1⟩ := (HBT.out.later hSw).key v hv21; rw [HTO.out] at x0 x1; clear hSw; go_simp⟩) (by assumption) ?_
          simp only [Act.put, List.setIfInBounds_toArray, List.set_cons_zero, List.set_cons_succ]
          refine wpAnyH_take (i := 16) (oi := { dst := some 63, op := Op.binOp BinOp.add 3 (Operand.tmp 62) (Operand.const (Value.int IntKind.i64 1)) 3, type := _, pos := _, after := _, guard := some (8, false) }) (v := .int .i64 os) rfl (by kernel_rfl) (by kernel_rfl) (by kernel_rfl) (fun _ _ _ h => h) (Or.inl ⟨by rfl, fun w hSw => by (try dsimp only at hSw); go_simp⟩) (by assumption) ?_
          simp only [Act.put, List.setIfInBounds_toArray, List.set_cons_zero, List.set_cons_succ]
          refine wpAnyH_take (i := 17) (oi := { dst := some 64, op := Op.binOp BinOp.neq 3 (Operand.tmp 57) (Operand.tmp 63) 3, type := _, pos := _, after := _, guard := some (8, false) }) (v := .bool false) rfl (by kernel_rfl) (by kernel_rfl) (by kernel_rfl) (fun _ _ _ h => h) (Or.inl ⟨by rfl, fun w hSw => by (try dsimp only at hSw); go_simp⟩) (by assumption) ?_
          simp only [Act.put, List.setIfInBounds_toArray, List.set_cons_zero, List.set_cons_succ]
          refine wpAnyH_take (i := 18) (oi := { dst := some 65, op := Op.pick (Operand.tmp 55) (Operand.const (Value.bool true)) (Operand.tmp 64), type := _, pos := _, after := _, guard := none }) (v := .bool false) rfl (by kernel_rfl) (by kernel_rfl) (by kernel_rfl) (fun _ _ _ h => h) (Or.inl ⟨by rfl, fun w hSw => by (try dsimp only at hSw); go_simp⟩) (by assumption) ?_
          simp only [Act.put, List.setIfInBounds_toArray, List.set_cons_zero, List.set_cons_succ]
          refine wpAnyH_done (by kernel_rfl) ?_ _
          go_wp2_with fail
          go_roundw
          case rel => exact ⟨v + 1, nn, by omega, by go_num, by rw [HS2.out.1], by omega, by rw [HS2.out.2]; exact HD2.out.later hS0⟩
          case measure => simp [intOf]; omega
      · obtain rfl : v = 21 := by omega
        rw [show ((21 : Nat) : Int) = 21 from rfl]
        obtain ⟨w6, hw6⟩ : ∃ w6, wr = w6 := ⟨_, rfl⟩
        rw [hw6] at HD ⊢
        clear hw6
        obtain ⟨cc, hcc⟩ : ∃ c, cu r 21 = c := ⟨_, rfl⟩
        have HCC : Hid (cu r 21 = cc) := hcc
        rw [hcc] at HPF HFR hcu ⊢
        clear hcc
        have HD0 : Hid (DM W w6 b nn (hct (nms r t.fr 21 ++ rng (plF t L) 0))) := by unfold Hid; rw [show rng (plF t L) 0 = [] from rfl, List.append_nil]; exact HD.out
        clear HD
        obtain ⟨r0, r1, r2, r3⟩ := (HTR.out.later HD0.out.bel).cells
        go_wp2_with fail
        go_loopw [9, 69] (fun c i wx => ∃ k nn : Nat, k ≤ lj.length ∧ i = .int .i64 (k : Int) ∧ c = .int .i64 ((cc : Int) + (k : Int)) ∧ nn ≤ 21 + k ∧ DM W wx b nn (hct (nms r t.fr 21 ++ rng (plF t L) k))) (fun _ i _ => lj.length - (intOf i).toNat)
        case atStart => exact ⟨0, nn, by omega, rfl, by simp, by omega, HD0.out⟩
        case round =>
          obtain ⟨k, nn, hk, rfl, rfl, hnn, hDM⟩ := hrel
          have HD : Hid (DM W wr b nn (hct (nms r t.fr 21 ++ rng (plF t L) k))) := hDM
          clear hDM HD0 r0 r1 r2 r3
          have hk64 : lj.length ≤ 64 := HLN.out.2.1
          by_cases hkN : k < lj.length
          · have i1 : (0 : Int) ≤ (k : Int) := by omega
            have i2 : (k : Int) < (lj.length : Int) := by omega
            obtain ⟨g, hal, hc0, hc1⟩ := (HM.out.2.1.later HD.out.bel) k hkN
            obtain ⟨hs8, hent, _⟩ := HST.out.joined (m := k) (by have := HFR.out.2.2.1; omega)
            have hgd : lj.getD k (0, 0) = (J.getD k 0, (((Rs.mvT t.ro L J).getD k 0 : Nat) : Int)) := by rw [HEN.out.2.2.1]; exact Rs.adl_get _ _ _ (by have := HFR.out.2.2.1; omega)
            rw [hgd] at hc0 hc1
            obtain ⟨sj, hsj⟩ : ∃ s, (Rs.mvT t.ro L J).getD k 0 = s := ⟨_, rfl⟩
            rw [hsj] at hs8 hent hc0 hc1
            obtain ⟨px, hpx⟩ : ∃ s, J.getD k 0 = s := ⟨_, rfl⟩
            rw [hpx] at hc0
            dsimp only at hc0 hc1
            obtain ⟨z, hz⟩ : ∃ z, plF t L + (k : Int) = z := ⟨_, rfl⟩
            have HRN : Hid (rng (plF t L) (k + 1) = rng (plF t L) k ++ [z]) := by unfold Hid; rw [rng_snoc, hz]
            have HZ : Hid ((n.ro sj).bas = z ∧ 0 ≤ z ∧ z ≤ 40000) := by
              refine ⟨by rw [HEN.out.1, hent]; exact hz, ?_⟩
              have h1 := HPF.out
              have h2 := HFR.out
              have h3 := HST.out.nm
              omega
            clear hgd hsj hpx hz hent
            subst hal
            have s0 : (0 : Int) ≤ (sj : Int) := by omega
            have s1 : (sj : Int) < 64 := by omega
            have HD1 : Hid (DM W (wr.alloc (.cells #[.int .i64 px, .int .i64 (sj : Int)] 48)) b nn (hct (nms r t.fr 21 ++ rng (plF t L) k))) := HD.out.later (below_alloc _ _)
            have hSE : StAt (wr.alloc (.cells #[.int .i64 px, .int .i64 (sj : Int)] 48)) wr.heap.size (px, (sj : Int)) := heap_alloc_last wr _
            clear HD
            go_upto_region 20 with (fail)
            clear hc0 hc1
            generalize wr.alloc (.cells #[.int .i64 px, .int .i64 (sj : Int)] 48) = w5 at *
            generalize wr.heap.size = C at *
            obtain ⟨x0, x1⟩ := hSE.cells
            dsimp only at x0 x1
            obtain ⟨e0, e1, e2⟩ := (HTT.out.later HD1.out.bel).ent sj hs8
            rw [HZ.out.1] at e1
            have hwz : Wi z := wi_of (by have := HZ.out; omega) (by have := HZ.out; omega)
            have hlk := look0 HD1.out.mh hwz
            rw [hct_get] at hlk
            have HCT : Hid (hct ((nms r t.fr 21 ++ rng (plF t L) k) ++ [z]) = hup (hct (nms r t.fr 21 ++ rng (plF t L) k)) z (((nms r t.fr 21 ++ rng (plF t L) k).count z : Nat) + 1 : Int)) := hct_snoc _ _
            have hlen := List.count_le_length (a := z) (l := nms r t.fr 21 ++ rng (plF t L) k)
            rw [List.length_append, rng_len] at hlen
            have hln2 := nms_len r t.fr 21
            obtain ⟨cn1, hcn1⟩ : ∃ c, (nms r t.fr 21 ++ rng (plF t L) k).count z = c := ⟨_, rfl⟩
            rw [hcn1] at hlk HCT hlen
            have hw1 : IntKind.i64.wrap ((cn1 : Int) + 1) = (cn1 : Int) + 1 := Rs.i64_fit _ (by omega) (by omega)
            have hwi : Wi ((cn1 : Int) + 1) := wi_of (by omega) (by omega)
            have hw2 : IntKind.i64.wrap ((cc : Int) + (k : Int) + 1) = (cc : Int) + (k : Int) + 1 := Rs.i64_fit _ (by omega) (by omega)
            have hn62 : nn < 4611686018427387904 := by omega
            clear hcn1 hlen hln2 hSE
            go_wp2_with (refine HD1.out.mh.upd hn62 hwz hwi rfl _ _ _ rfl rfl rfl rfl ?_; intro w' hm' hg')
            go_roundw
            case rel => exact ⟨k + 1, nn + 1, by omega, by go_num, by rw [show ((cc : Int) + (k : Int) + 1) = (cc : Int) + ((k + 1 : Nat) : Int) by omega], by omega, by rw [HRN.out, ← List.append_assoc, HCT.out]; exact HD1.out.upd hm' hg'⟩
            case measure => simp [intOf]; omega
          · obtain rfl : k = lj.length := by omega
            have hdk : decide ((lj.length : Int) < (lj.length : Int)) = false := by simp
            obtain ⟨w7, hw7⟩ : ∃ w7, wr = w7 := ⟨_, rfl⟩
            rw [hw7] at HD ⊢
            clear hw7
            have HON : Hid (∀ i : Nat, (i : Int) < (cc : Int) + (lj.length : Int) → (nms r t.fr 21 ++ rng (plF t L) lj.length).count (t.fr + (i : Int)) = 1) := fun i hi => by
              rw [HPF.out, ← HCC.out]
              exact all_once r t.fr lj.length i (by rw [HCC.out]; omega)
            obtain ⟨cf, hcf⟩ : ∃ c : Int, (cc : Int) + (lj.length : Int) = c := ⟨_, rfl⟩
            have HCF : Hid ((cc : Int) + (lj.length : Int) = cf) := hcf
            rw [hcf] at HON ⊢
            clear hcf
            have hf0 : 22 ≤ t.fr := HFR.out.1
            have hf1 : t.fr ≤ 32768 := HFR.out.2.1
            have hcf0 : cf ≤ 1000 := by have := HCF.out; omega
            have HFN : Hid (n.fr = t.fr + cf) := by unfold Hid; rw [HFR.out.2.2.2, ← HCF.out]; omega
            go_wp2_with fail
            go_loopw [14] (fun i wx => ∃ k : Nat, (k : Int) ≤ cf ∧ i = .int .i64 (k : Int) ∧ wx = w7) (fun i _ => cf.toNat - (intOf i).toNat)
            case atStart => exact ⟨0, by have := HCF.out; omega, rfl, rfl⟩
            case round =>
              obtain ⟨k, hk, rfl, rfl⟩ := hrel
              obtain ⟨y0, y1⟩ := (HX3.out.tr.later HD.out.bel).cells
              by_cases hkc : (k : Int) < cf
              · have hd : decide ((k : Int) < cf) = true := decide_eq_true hkc
                have hwz : Wi (t.fr + (k : Int)) := wi_of (by omega) (by omega)
                have hlk := look0 HD.out.mh hwz
                rw [hct_get, HON.out k hkc] at hlk
                have hw1 : IntKind.i64.wrap (t.fr + (k : Int)) = t.fr + (k : Int) := Rs.i64_fit _ (by omega) (by omega)
                obtain ⟨z, hz⟩ : ∃ z, t.fr + (k : Int) = z := ⟨_, rfl⟩
                rw [hz] at hlk hw1
                have HZ : Hid (t.fr + (k : Int) = z) := hz
                have hw2 : IntKind.i64.wrap (t.fr + (k : Int)) = z := by rw [hz]; exact hw1
                clear hz hwz
                have HK : Hid ((k : Int) < cf) := hkc
                have hkn : k < 1000 := by omega
                have hw9 : IntKind.i64.wrap ((k : Int) + 1) = (k : Int) + 1 := Rs.i64_fit _ (by omega) (by omega)
                clear hkc hk hf0 hf1 hcf0
                go_wp2_with fail
                go_roundw
                case rel => exact ⟨k + 1, by have := HK.out; omega, by go_num, by first | trivial | rfl⟩
                case measure => simp [intOf]; have := HK.out; omega
              · have hd : decide ((k : Int) < cf) = false := decide_eq_false hkc
                obtain ⟨z0, z1⟩ := (HTT.out.later HD.out.bel).cells
                rw [HFN.out] at z1
                have hw2 : IntKind.i64.wrap (t.fr + cf) = t.fr + cf := Rs.i64_fit _ (by omega) (by have := HCF.out; omega)
                obtain ⟨z, hz⟩ : ∃ z, t.fr + cf = z := ⟨_, rfl⟩
                rw [hz] at z1
                have hw3 : IntKind.i64.wrap (t.fr + cf) = z := by rw [hw2]; exact hz
                clear hkc hk hz hw2 hf0 hf1 hcf0
                go_wp2_with fail
                go_ret
                exact ⟨rfl, HX3.out.bel.trans (HD.out.bel.mono HX3.out.bel.size)⟩
  · have hd2 : (e != 0) = true := by simpa using he0
    have HB : Hid (Below w.heap.size w W) := hX3.bel
    clear he0 tT tR hX3
    go_wp2_with fail
    go_ret
    exact ⟨rfl, HB.out⟩
theorem own : ownKnob Tryd.prog.godebug = none := by kernel_rfl
theorem laidOut : laidOutB Tryd.prog = true := by kernel_rfl
set_option maxRecDepth 20000 in
theorem contract (H : Type) (enc : TypeId × Value → H) (W : World) (base : Nat) (args : Array Value) (ds gs : List (DataW H)) (before : List MemPlace)
    (hval : ∀ (j : Nat) t v, Tryd.f3.params[j]? = some t → args[j]? = some v → Value.okWide Tryd.prog W .any base t v)
    (hW : DataW.Whole enc Tryd.prog Tryd.f3.params.toList Rows.planFreshSpec.vars false W args.toList ds gs before)
    (hsz : (DataW.weightsEach Tryd.prog (Tryd.f3.params.toList ++ Rows.planFreshSpec.plain.varTypes Tryd.prog) (ds ++ gs)).all (· ≤ reachBytes) = true)
    (hL : laidMetH Tryd.prog Rows.planFreshRow.laid W) :
    Calls Tryd.prog 3 args W fun e W' => ∃ v, e = .returned v ∧ Rows.planFreshSpec.post enc Tryd.prog Tryd.f3 false true false false W args v W' := by
  have hv := vs_of hL
  have hW' := hW
  obtain ⟨p, q, hA0, hV, rfl, hfz, hnd⟩ := hW
  have hA : DataW.TrodAll enc Tryd.prog W 0 (fun _ => true) true Tryd.f3.params.toList args.toList ds p := hA0
  rw [Tryd.params3] at hA hval hsz
  obtain ⟨v0, vs0, d0, ds0, p0, q0, hargs, rfl, rfl, h0, r0⟩ := trodAll_cons hA
  obtain ⟨v1, vs1, d1, ds1, p1, q1, rfl, rfl, rfl, h1, r1⟩ := trodAll_cons r0
  obtain ⟨rfl, rfl, rfl⟩ := trodAll_nil r1
  obtain rfl : args = #[v0, v1] := by cases args; simp_all
  obtain ⟨rfl, rfl⟩ := trodVars_none hV
  have k0 := h0
  have lt0 : ∀ x ∈ p0, x.block < W.heap.size := by obtain ⟨m, hm⟩ := k0; exact DataW.trod_lt m _ _ _ hm
  obtain ⟨f0, rfl⟩ := open_tr (hval 0 31 v0 rfl rfl) h0
  have k1 := h1
  have lt1 : ∀ x ∈ p1, x.block < W.heap.size := by obtain ⟨m, hm⟩ := k1; exact DataW.trod_lt m _ _ _ hm
  obtain ⟨aL1, aJ1, cL1, cJ1, L1, J1, rfl, rL1, rJ1, lL1, lJ1⟩ := open_bt (fun parts e => sized_agg hsz (j := 1) (t := 34) rfl (by rw [← e]; rfl) Tryd.underlying34) (hval 1 34 v1 rfl rfl) h1
  clear hA0
  refine (walk f0 aL1 aJ1 cL1 cJ1 L1 J1 W rL1 rJ1 lL1 lJ1 hv).mono fun e W' ⟨he, bel⟩ => ?_
  subst he
  exact ⟨_, rfl, _, _, _, [], _, [], hW', trodAll_mk1 (shut_bool Tryd.underlying4 _), (trodAll_cons_mk (Below.trod laidOut (by kernel_rfl) (of_decide_eq_true (by kernel_rfl)) k0 bel lt0) (trodAll_cons_mk (Below.trod laidOut (by kernel_rfl) (of_decide_eq_true (by kernel_rfl)) k1 bel lt1) trodAll_mk0)), rfl, bel.frame _, fun h => by cases h⟩
set_option maxRecDepth 100000 in
theorem laid_met (os : Os) : laidMet Tryd.prog Rows.planFreshRow.laid ((laidWorld os).forCall (fun _ _ => 0) ⟨#[], #[.agg (tcs (tz 0)), .agg #[.slice none 0 0, .slice none 0 0]], []⟩).memory :=
  laidMet_of_run' 8 (by kernel_rfl) (by kernel_rfl)
set_option maxRecDepth 100000 in
theorem reads (os : Os) {H : Type} (enc : TypeId × Value → H) : ∃ places, DataW.whole enc Tryd.prog ((laidWorld os).forCall (fun _ _ => 0) ⟨#[], #[.agg (tcs (tz 0)), .agg #[.slice none 0 0, .slice none 0 0]], []⟩).memory Tryd.f3.params.toList Rows.planFreshSpec.vars false (#[.agg (tcs (tz 0)), .agg #[.slice none 0 0, .slice none 0 0]] : Array Value).toList 8 = some ([trD, .agg [.nil, .nil]], [], places) :=
  ⟨[], by kernel_rfl⟩
set_option maxRecDepth 100000 in
theorem lifted (os : Os) (started : os.Started) (H : Type) (enc : TypeId × Value → H) (F : Stop.Interp) :
    ReturnsInHanded {} Tryd.checked os 3 .any ((OpenSpec.ofChange Rows.planFreshSpec).preRow enc Tryd.prog Tryd.f3 Rows.planFreshRow.domain false Rows.planFreshRow.laid) (((OpenSpec.ofChange Rows.planFreshSpec).at F).post enc Tryd.prog Tryd.f3 false true false false) := by
  obtain ⟨places, hx⟩ := reads os enc
  refine returnsInHanded_of_row (C := Tryd.checked) (s := (OpenSpec.ofChange Rows.planFreshSpec)) own started (by kernel_rfl) Tryd.func3
    (witness_row_at (enc := enc) (C := Tryd.checked) false (laidWorld os) #[.agg (tcs (tz 0)), .agg #[.slice none 0 0, .slice none 0 0]] rfl (by kernel_rfl) (by kernel_rfl) (by kernel_rfl)
      (OpenSpec.preRow_of_cond 8 hx (by kernel_rfl) (fun k hk => by cases hk) (by kernel_rfl) (laid_met os))) ?_
  intro W base args ds gs before hval hW hc1 hc2 hsz hL hsh _
  exact contract H enc W base args ds gs before hval hW hsz hL
theorem said : Rows.PlanFreshSaid :=
  OpenClaim.holds_of_cond 3 Tryd.f3 rfl rfl rfl rfl rfl rfl rfl ⟨rfl, rfl, rfl, rfl, rfl⟩ rfl rfl rfl rfl rfl (by kernel_rfl) Tryd.func3 (by kernel_rfl)
    (of_decide_eq_true (by kernel_rfl)) (by unfold Func.isWrapper; first | (rw [if_pos (by decide +kernel)]; kernel_rfl) | (rw [if_neg (by decide +kernel)]; exact ⟨rfl, rfl⟩))
    (fun os started H enc _ F => by rw [OpenClaim.pre_eq_preRow]; exact lifted os started H enc F)
theorem plain (f : FuncId) (fn : Func) (hf : Tryd.pinned.checked.prog.funcNamed "coterie/coterielaw12.PlanFresh" = some f) (hfn : Tryd.pinned.checked.prog.funcs[f]? = some fn) :
    false = Tryd.pinned.checked.prog.looks [] ∧ ∀ (j : Nat) t, fn.params[j]? = some t → Tryd.pinned.checked.prog.wantsStandIn t = false := by
  obtain rfl : f = 3 := Option.some.inj ((show Tryd.prog.funcNamed "coterie/coterielaw12.PlanFresh" = some 3 by kernel_rfl).symm.trans hf) |>.symm
  obtain rfl : fn = Tryd.f3 := (Option.some.inj (Tryd.func3.symm.trans hfn)).symm
  refine ⟨by kernel_rfl, fun j t ht => ?_⟩
  rw [Tryd.params3] at ht
  have h31 : Tryd.prog.wantsStandIn 31 = false := by kernel_rfl
  have h34 : Tryd.prog.wantsStandIn 34 = false := by kernel_rfl
  have hm := Array.mem_of_getElem? ht
  simp at hm
  rcases hm with rfl | rfl
  · exact h31
  · exact h34
end Go.Proofs.YtedbnamekfgmhabDoor.planFresh
namespace Go.Proofs.YtedbnamekfgmhabDoor
theorem planFresh_holds : Rows.PlanFreshCardSaid :=
  Claim7.holds_tied_plain_at .later [] _ _ _ _ planFresh.said (fun _ h => by cases h) (by kernel_rfl) (fun _ h => by cases h) planFresh_row_tie rfl ⟨rfl, rfl⟩ (by kernel_rfl) rfl planFresh.plain (by kernel_rfl)
#print axioms planFresh_holds
end Go.Proofs.YtedbnamekfgmhabDoor
