/- For every tree and every batch: of the joiners' leaf keys and all boxes of plan.Next's message no key of a node of the old tree is derived: PlanBackward, in its first form (the listed variable as the program's text lays it), and the card. -/
import Derived.Test.YtedbnamekfgmhaaDoorCards
import Derived.Test.YtedbnamekfgmhaaDoorTie
import Derived.Test.YtedbnamekfgmhaaDoorPlO
import Derived.Test.YtedbnamekfgmhaaDoorRsK
import Derived.Test.YtedbnamekfgmhaaDoorOpenTr
import Derived.WalkKit
import Derived.ProofKit
import Derived.OpenShut
import Derived.Deep.DeepHandedRow
import Derived.Deep.DeepWitnessRowRef
import Derived.SizedLaws
namespace Go.Proofs.YtedbnamekfgmhaaDoor.planBackward
open Go.ChangeShapes Go.WideShapes Go.ChangeAt Go.RowKit Go.Maps Go.Shelf
open Rt (Ky KyAt)
open Rs (tkn En zE rcs RdI RdS ps Tb tb_of laidWorld open_bt sized_agg roD bytesI open_sl evl)
set_option linter.unusedVariables false
set_option linter.unusedSimpArgs false

theorem vs_of {W : World} (hL : laidMetH Tryd.prog Rows.planBackwardRow.laid W) : Tb W := tb_of (show laidMet Tryd.prog Rows.planBackwardRow.laid W from hL)
def trD {H : Type} : DataW H := .agg [.lit (.int .i64 0), .lit (.int .i64 0), .agg (List.replicate 21 (.agg [.lit (.int .i64 0), .lit (.int .i64 0)])), roD]
set_option maxRecDepth 100000 in
set_option maxHeartbeats 4000000 in
theorem walk (t : Tr) (aL aJ : Option Addr) (cL cJ : Nat) (L J : List Int) (w : World) (rL : RdI w aL L) (rJ : RdI w aJ J) (lL : L.length * 8 ≤ 140737488351232) (lJ : J.length * 8 ≤ 140737488351232) (hTb : Tb w) :
    Calls Tryd.prog 8 #[.agg (tcs t), .agg #[.slice aL L.length cL, .slice aJ J.length cJ] ] w fun e w' => e = .returned (.bool true) ∧ Below w.heap.size w w' := by
  have hX := TB.new w t aL aJ L.length J.length cL cJ
  obtain ⟨ct, hct⟩ : ∃ c, tcs t = c := ⟨_, rfl⟩
  have HT : Hid (tcs t = ct) := hct
  clear hct
  go_enter Tryd.func8, Tryd.ntmps8
  go_upto_region 1 with (fail)
  generalize (w.alloc (.cells (tcs t) 31)).alloc (.cells #[.slice aL L.length cL, .slice aJ J.length cJ] 34) = w0 at *
  rw [HT.out]
  obtain ⟨C0, hC⟩ : ∃ C, w.heap.size + 1 = C := ⟨_, rfl⟩
  rw [hC] at hX ⊢
  obtain ⟨B, hB⟩ : ∃ B, w.heap.size = B := ⟨_, rfl⟩
  rw [hB] at hX ⊢
  clear hC hB
  have hl := lives_any w0 (hTb.later hX.bel)
  go_wp2_with fail
  refine hl.mono ?_
  rintro r w1 ⟨rfl, hb1⟩
  have hX1 := hX.later hb1
  clear hl hX hb1
  have h1 := next_any t aL aJ cL cJ L J w1 (hTb.later hX1.bel) (by omega) (by omega) (rL.later hX1.bel) (rJ.later hX1.bel)
  rw [HT.out] at h1
  have hT1 := hX1.tr
  obtain ⟨d0, d1⟩ := hX1.bt.cells
  go_wp2_with (refine rdT hT1 HT.out _ rfl rfl rfl ?_)
  refine h1.mono ?_
  rintro r w2 ⟨⟨vl, vj, vi, rfl, hNP⟩, hb2⟩
  have hX2 := hX1.later hb2
  have g1 := hNP.left
  have g2 := hNP.join
  have g3 := hNP.item
  obtain ⟨a1, k1, rfl⟩ := Rs.owns_slice g1
  obtain ⟨a2, k2, rfl⟩ := Rs.owns_slice g2
  obtain ⟨a3, k3, rfl⟩ := Rs.owns_slice g3
  have m1 := rds_of g1
  have m2 := rds_of g2
  have m3 := owns_rdT g3
  have f1 := pnL_len t L J
  have f2 := pnJ_len t L J
  have f3 := pnI_short t L J
  have HOK : Hid (plE t L J = 0 → Stp t L J ∧ pnT t L J = nx t L J ∧ pnL t L J = evl t.ro L ∧ pnJ t L J = jns t L J ∧ pnI t L J = its (nx t L J) (plR t L) (jns t L J)) := fun h => by
    refine ⟨plE_stp h, ?_, ?_, ?_, ?_⟩
    · unfold pnT; rw [if_pos h]
    · unfold pnL; rw [if_pos h]
    · unfold pnJ; rw [if_pos h]
    · unfold pnI; rw [if_pos h]
  obtain ⟨n, hn⟩ : ∃ n, pnT t L J = n := ⟨_, rfl⟩
  obtain ⟨ll, hll⟩ : ∃ l, pnL t L J = l := ⟨_, rfl⟩
  obtain ⟨lj, hlj⟩ : ∃ l, pnJ t L J = l := ⟨_, rfl⟩
  obtain ⟨li, hli⟩ : ∃ l, pnI t L J = l := ⟨_, rfl⟩
  obtain ⟨e, he⟩ : ∃ e, plE t L J = e := ⟨_, rfl⟩
  obtain ⟨p, hp⟩ : ∃ e, pnP t L J = e := ⟨_, rfl⟩
  rw [hll, hlj, hli, he, hp, hn]
  rw [hll] at m1 f1 HOK
  rw [hlj] at m2 f2 HOK
  rw [hli] at m3 f3 HOK
  rw [he, hn] at HOK
  obtain ⟨cn, hcn⟩ : ∃ c, tcs n = c := ⟨_, rfl⟩
  have HC : Hid (tcs n = cn) := hcn
  rw [hcn]
  obtain ⟨t1, t2, W, hW, tT, tR, tB⟩ := two_boxes w2 n cn #[.int .i64 p, .slice a1 ll.length k1, .slice a2 lj.length k2, .slice a3 li.length k3] hcn
  have hX3 := hX2.later tB
  have HM : Hid (RdS W a1 ll ∧ RdS W a2 lj ∧ RdT W a3 li) := ⟨m1.later tB, m2.later tB, m3.later tB⟩
  have HLN : Hid (ll.length ≤ 64 ∧ lj.length ≤ 64 ∧ li.length ≤ 4096) := ⟨f1, f2, f3⟩
  clear h1 hX1 hX2 hT1 hb2 d0 d1 hNP hn hll hlj hli he hp hcn tB f1 f2 f3 g1 g2 g3 m1 m2 m3
  go_upto_region 4 with (first | (refine stTc t1 HC.out rfl _ _ rfl rfl rfl ?_) | (refine stRw infoRk (cs := rkz) rkz_size t2 _ rfl (rk_one _ _ _ _ _ _ _ _ _ _) rfl _ _ rfl rfl rfl ?_))
  clear t1 t2 hW
  generalize w2.heap.size = N at *
  by_cases he0 : e = 0
  · subst he0
    obtain ⟨hst, en, el, ej, ei⟩ := HOK.out rfl
    have HST : Hid (Stp t L J) := hst
    have HEN : Hid (n = nx t L J ∧ ll = evl t.ro L ∧ lj = jns t L J ∧ li = its (nx t L J) (plR t L) (jns t L J)) := ⟨en, el, ej, ei⟩
    have htn : tck n = true := by rw [en]; exact hst.tckn
    have htk : tck t = true := hst.ok
    obtain ⟨r0, r1, r2, r3⟩ := tR.cells
    obtain ⟨i0, hi, hz0, hz1, hz2⟩ := infoKey_parts
    have HTT : Hid (TrAt W N n) := tT
    have HTR : Hid (RkAt W (N + 1) #[.int .i64 p, .slice a1 ll.length k1, .slice a2 lj.length k2, .slice a3 li.length k3]) := tR
    have HX3 : Hid (TB w W B C0 t aL aJ L.length J.length cL cJ) := hX3
    clear hst en el ej ei HOK tT tR hX3
    go_wp2_with fail
    go_loopw [8, 31] (fun x i wx => ∃ (m : Nat) (v : Value), m ≤ lj.length ∧ i = .int .i64 (m : Int) ∧ v = x ∧ BK W wx v ((lj.take m).map fun p => kpr (kyA n (21 + p.2.toNat)))) (fun _ i _ => lj.length - (intOf i).toNat)
    case atStart => exact ⟨0, _, by omega, rfl, rfl, ⟨Below.refl _ _, World.ownsRow_nil _ _ _ _⟩⟩
    case round =>
      obtain ⟨m, v, hm, rfl, rfl, hbk⟩ := hrel
      have HBK : Hid (BK W wr v ((lj.take m).map fun p => kpr (kyA n (21 + p.2.toNat)))) := hbk
      clear hbk r0 r1 r2 r3
      by_cases hmN : m < lj.length
      · have hm64 : m < 64 := by have := HLN.out; omega
        have i1 : (0 : Int) ≤ (m : Int) := by omega
        have i2 : (m : Int) < (lj.length : Int) := by omega
        obtain ⟨g, hal, hc0, hc1⟩ := (HM.out.2.1.later HBK.out.bel) m hmN
        obtain ⟨s, hs8, hps, hts, _⟩ := HST.out.seat (p := lj.getD m (0, 0)) (by rw [← HEN.out.2.2.1]; exact getD_in hmN)
        rw [← HEN.out.1] at hts
        have HTK : Hid ((lj.take (m + 1)).map (fun p => kpr (kyA n (21 + p.2.toNat))) = (lj.take m).map (fun p => kpr (kyA n (21 + p.2.toNat))) ++ [kpr (kyA n (21 + s))]) := by
          unfold Hid
          rw [take_snoc2 hmN, List.map_append, List.map_singleton, hps, Int.toNat_natCast]
        have HLEN : Hid (((lj.take m).map fun p => kpr (kyA n (21 + p.2.toNat))).length = m) := by unfold Hid; simp; omega
        obtain ⟨q, hq⟩ : ∃ q, lj.getD m (0, 0) = q := ⟨_, rfl⟩
        rw [hq] at hc0 hc1 hps
        obtain ⟨px, py⟩ := q
        dsimp only at hc0 hc1 hps
        subst hps
        subst hal
        clear hq
        obtain ⟨l, hl⟩ : ∃ l, (lj.take m).map (fun p => kpr (kyA n (21 + p.2.toNat))) = l := ⟨_, rfl⟩
        rw [hl] at HBK HTK HLEN
        clear hl
        obtain ⟨ar, cr, rfl⟩ := Rs.owns_slice HBK.out.row
        have hks := koK_leaf htn hs8 hts
        have hof := rOf_any n htn ((21 + s : Nat) : Int)
        unfold KeyA at hof
        rw [hks.1, HC.out] at hof
        have HKE : Hid (kyA n (21 + s) = koK n ((21 + s : Nat) : Int)) := kyA_ko htn (by omega) hks.1
        obtain ⟨k, hk⟩ : ∃ k, koK n ((21 + s : Nat) : Int) = k := ⟨_, rfl⟩
        rw [hk] at hof HKE
        rw [HKE.out] at HTK
        rw [show (((21 + s : Nat) : Int)) = 21 + (s : Int) by push_cast; rfl] at hof
        have hlf := Sh.rLeaf_any (s : Int)
        rw [Sh.lef_yes (by omega) (by omega)] at hlf
        obtain ⟨z, hz⟩ : ∃ z, 21 + (s : Int) = z := ⟨_, rfl⟩
        rw [hz] at hof hlf
        clear hz hk hks hts
        have hSE : StAt (wr.alloc (.cells #[.int .i64 px, .int .i64 (s : Int)] 49)) wr.heap.size (px, (s : Int)) := heap_alloc_last wr _
        have HBK2 : Hid (BK W (wr.alloc (.cells #[.int .i64 px, .int .i64 (s : Int)] 49)) (.slice ar l.length cr) l) := HBK.out.later (below_alloc _ _)
        clear HBK
        go_upto_region 10 with (fail)
        generalize wr.alloc (.cells #[.int .i64 px, .int .i64 (s : Int)] 49) = w5 at *
        generalize wr.heap.size = C at *
        go_cut [11, 12] (fun s11 s12 wx => ∃ A, s11 = .pointer (some ⟨A, 0, none⟩) ∧ s12 = .int .i64 0 ∧ LS w5 wx N C n (px, (s : Int)) ∧ KyAt wx A k)
        case first =>
          have hS0 : LS w5 w5.drew N C n (px, (s : Int)) := LS.later ⟨HTT.out.later HBK2.out.bel, hSE, Below.refl _ _⟩ (drew_below _)
          clear hSE
          refine wp_region_held_drew (S := fun X => LS w5 X N C n (px, (s : Int))) (by kernel_rfl) hS0 (fun hHeld => ?_)
          refine wpAnyH_take (i := 0) (oi := { dst := some 36, op := Op.load 31 (Operand.tmp 5), type := _, pos := _, after := _, guard := none }) (v := .agg cn) rfl (by kernel_rfl) (by kernel_rfl) (by kernel_rfl) (fun _ _ _ h => h) (Or.inl ⟨by rfl, fun w hSw => ld_exec (HC.out ▸ hSw.tr.whole) rfl rfl⟩) (by assumption) ?_
          simp only [Act.put, List.setIfInBounds_toArray, List.set_cons_zero, List.set_cons_succ]
          refine wpAnyH_take (i := 1) (oi := { dst := some 37, op := Op.fieldAddr 49 (Operand.tmp 10) 1, type := _, pos := _, after := _, guard := none }) (v := .pointer (some ⟨C, 1, none⟩)) rfl (by kernel_rfl) (by kernel_rfl) (by kernel_rfl) (fun _ _ _ h => h) (Or.inl ⟨by rfl, fun w hSw => by (try dsimp only at hSw); go_simp⟩) (by assumption) ?_
          simp only [Act.put, List.setIfInBounds_toArray, List.set_cons_zero, List.set_cons_succ]
          refine wpAnyH_take (i := 2) (oi := { dst := some 38, op := Op.load 3 (Operand.tmp 37), type := _, pos := _, after := _, guard := none }) (v := .int .i64 (s : Int)) rfl (by kernel_rfl) (by kernel_rfl) (by kernel_rfl) (fun _ _ _ h => h) (Or.inl ⟨by rfl, fun w hSw => by obtain ⟨x0, x1⟩ := hSw.se.cells; dsimp only at x0 x1; clear hSw; go_simp⟩) (by assumption) ?_
          simp only [Act.put, List.setIfInBounds_toArray, List.set_cons_zero, List.set_cons_succ]
          refine wpAnyH_ready (rs := [3, 8]) (by kernel_rfl) (by simp) ?_
          refine (AllReadyH.cons rfl (fun K hK => ?_) (AllReadyH.cons rfl (fun K hK => ?_) AllReadyH.nil))
          · go_simp
            refine (hlf _).mono ?_
            rintro r w6 ⟨rfl, rfl⟩
            go_wp2_with fail
            refine hK.out _ _ hHeld (fun hHd1 => ?_)
            clear hHeld
            clear hK K
            try simp only [Act.put, List.setIfInBounds_toArray, List.set_cons_zero, List.set_cons_succ]
            refine wpAnyH_ready (rs := [4, 8]) (by kernel_rfl) (by simp) ?_
            refine (AllReadyH.cons rfl (fun K hK => ?_) (AllReadyH.cons rfl (fun K hK => ?_) AllReadyH.nil))
            · go_simp
              refine (hof _).mono ?_
              rintro r w7 ⟨rfl, hb7⟩
              go_wp2_with fail
              refine hK.out _ _ (hHd1.later hb7) (fun hHd2 => ?_)
              clear hHd1 hb7
              clear hK K
              try simp only [Act.put, List.setIfInBounds_toArray, List.set_cons_zero, List.set_cons_succ]
              refine wpAnyH_take (i := 5) (oi := { dst := some 35, op := Op.move (Operand.tmp 40), type := _, pos := _, after := _, guard := none }) (v := .tuple #[.agg #[.int .i64 k.bas, .int .i64 k.stp], .int .i64 0]) rfl (by kernel_rfl) (by kernel_rfl) (by kernel_rfl) (fun _ _ _ h => h) (Or.inl ⟨by rfl, fun w hSw => by (try dsimp only at hSw); go_simp⟩) (by assumption) ?_
              simp only [Act.put, List.setIfInBounds_toArray, List.set_cons_zero, List.set_cons_succ]
              refine wpAnyH_take (i := 6) (oi := { dst := some 41, op := Op.extract (Operand.tmp 35) 0, type := _, pos := _, after := _, guard := none }) (v := .agg #[.int .i64 k.bas, .int .i64 k.stp]) rfl (by kernel_rfl) (by kernel_rfl) (by kernel_rfl) (fun _ _ _ h => h) (Or.inl ⟨by rfl, fun w hSw => by (try dsimp only at hSw); go_simp⟩) (by assumption) ?_
              simp only [Act.put, List.setIfInBounds_toArray, List.set_cons_zero, List.set_cons_succ]
              refine wpAnyH_take (i := 7) (oi := { dst := some 42, op := Op.extract (Operand.tmp 35) 1, type := _, pos := _, after := _, guard := none }) (v := .int .i64 0) rfl (by kernel_rfl) (by kernel_rfl) (by kernel_rfl) (fun _ _ _ h => h) (Or.inl ⟨by rfl, fun w hSw => by (try dsimp only at hSw); go_simp⟩) (by assumption) ?_
              simp only [Act.put, List.setIfInBounds_toArray, List.set_cons_zero, List.set_cons_succ]
              refine wpAnyH_ready (rs := [8]) (by kernel_rfl) (by simp) ?_
              refine AllReadyH.cons rfl (fun K hK => ?_) AllReadyH.nil
              go_simp
              have hpre := hHd2
              refine hK.out _ _ (hHd2.later (below_alloc _ _)) (fun hHd3 => ?_)
              clear hK K
              try simp only [Act.put, List.setIfInBounds_toArray, List.set_cons_zero, List.set_cons_succ]
              refine wpAnyH_ready (rs := [9]) (by kernel_rfl) (by simp) ?_
              refine AllReadyH.cons rfl (fun K hK => ?_) AllReadyH.nil
              go_simp
              first | (refine hK.out _ _ (hpre.later (below_alloc _ _)) (fun hHd4 => ?_); have hkyZ := Rt.KyAt.new w7 k) | (refine hK.out _ _ (hHd3.two hky2 (Nat.le_refl _) _ _) (fun hHd4 => ?_); have hkyZ := KyAt.set hky2 k.bas k.stp)
              clear hK K
              try simp only [Act.put, List.setIfInBounds_toArray, List.set_cons_zero, List.set_cons_succ]
              refine wpAnyH_take (i := 10) (oi := { dst := some 12, op := Op.assign (Operand.tmp 42), type := _, pos := _, after := _, guard := none }) (v := .int .i64 0) rfl (by kernel_rfl) (by kernel_rfl) (by kernel_rfl) (fun _ _ _ h => h) (Or.inl ⟨by rfl, fun w hSw => by (try dsimp only at hSw); go_simp⟩) (by assumption) ?_
              simp only [Act.put, List.setIfInBounds_toArray, List.set_cons_zero, List.set_cons_succ]
              refine wpAnyH_done (by kernel_rfl) ?_ _
              go_wp2_with fail
              go_meet
              case rel => exact ⟨_, rfl, rfl, hHd4, hkyZ⟩
            · go_simp
              have hky : KyAt (w5.drew.alloc (.cells #[.int .i64 0, .int .i64 0] 23)) w5.heap.size Rt.zK := Rt.KyAt.new w5.drew Rt.zK
              refine hK.out _ _ (hHd1.later (below_alloc _ _)) (fun hHd2 => ?_)
              clear hHd1
              clear hK K
              try simp only [Act.put, List.setIfInBounds_toArray, List.set_cons_zero, List.set_cons_succ]
              refine wpAnyH_ready (rs := [4]) (by kernel_rfl) (by simp) ?_
              refine AllReadyH.cons rfl (fun K hK => ?_) AllReadyH.nil
              go_simp
              refine (hof _).mono ?_
              rintro r w7 ⟨rfl, hb7⟩
              go_wp2_with fail
              have hky2 := hky.later hb7
              obtain ⟨x0, x1⟩ := hky2.cells
              have y0 := Rt.row_frozen hky2 0
              have y1 := Rt.row_frozen hky2 1
              refine hK.out _ _ (hHd2.later hb7) (fun hHd3 => ?_)
              clear hHd2 hb7 hky
              clear hK K
              try simp only [Act.put, List.setIfInBounds_toArray, List.set_cons_zero, List.set_cons_succ]
              refine wpAnyH_take (i := 5) (oi := { dst := some 35, op := Op.move (Operand.tmp 40), type := _, pos := _, after := _, guard := none }) (v := .tuple #[.agg #[.int .i64 k.bas, .int .i64 k.stp], .int .i64 0]) rfl (by kernel_rfl) (by kernel_rfl) (by kernel_rfl) (fun _ _ _ h => h) (Or.inl ⟨by rfl, fun w hSw => by (try dsimp only at hSw); go_simp⟩) (by assumption) ?_
              simp only [Act.put, List.setIfInBounds_toArray, List.set_cons_zero, List.set_cons_succ]
              refine wpAnyH_take (i := 6) (oi := { dst := some 41, op := Op.extract (Operand.tmp 35) 0, type := _, pos := _, after := _, guard := none }) (v := .agg #[.int .i64 k.bas, .int .i64 k.stp]) rfl (by kernel_rfl) (by kernel_rfl) (by kernel_rfl) (fun _ _ _ h => h) (Or.inl ⟨by rfl, fun w hSw => by (try dsimp only at hSw); go_simp⟩) (by assumption) ?_
              simp only [Act.put, List.setIfInBounds_toArray, List.set_cons_zero, List.set_cons_succ]
              refine wpAnyH_take (i := 7) (oi := { dst := some 42, op := Op.extract (Operand.tmp 35) 1, type := _, pos := _, after := _, guard := none }) (v := .int .i64 0) rfl (by kernel_rfl) (by kernel_rfl) (by kernel_rfl) (fun _ _ _ h => h) (Or.inl ⟨by rfl, fun w hSw => by (try dsimp only at hSw); go_simp⟩) (by assumption) ?_
              simp only [Act.put, List.setIfInBounds_toArray, List.set_cons_zero, List.set_cons_succ]
              refine wpAnyH_ready (rs := [9]) (by kernel_rfl) (by simp) ?_
              refine AllReadyH.cons rfl (fun K hK => ?_) AllReadyH.nil
              go_simp
              first | (refine hK.out _ _ (hpre.later (below_alloc _ _)) (fun hHd4 => ?_); have hkyZ := Rt.KyAt.new w7 k) | (refine hK.out _ _ (hHd3.two hky2 (Nat.le_refl _) _ _) (fun hHd4 => ?_); have hkyZ := KyAt.set hky2 k.bas k.stp)
              clear hK K
              try simp only [Act.put, List.setIfInBounds_toArray, List.set_cons_zero, List.set_cons_succ]
              refine wpAnyH_take (i := 10) (oi := { dst := some 12, op := Op.assign (Operand.tmp 42), type := _, pos := _, after := _, guard := none }) (v := .int .i64 0) rfl (by kernel_rfl) (by kernel_rfl) (by kernel_rfl) (fun _ _ _ h => h) (Or.inl ⟨by rfl, fun w hSw => by (try dsimp only at hSw); go_simp⟩) (by assumption) ?_
              simp only [Act.put, List.setIfInBounds_toArray, List.set_cons_zero, List.set_cons_succ]
              refine wpAnyH_done (by kernel_rfl) ?_ _
              go_wp2_with fail
              go_meet
              case rel => exact ⟨_, rfl, rfl, hHd4, hkyZ⟩
          · go_simp
            have hky : KyAt (w5.drew.alloc (.cells #[.int .i64 0, .int .i64 0] 23)) w5.heap.size Rt.zK := Rt.KyAt.new w5.drew Rt.zK
            refine hK.out _ _ (hHeld.later (below_alloc _ _)) (fun hHd1 => ?_)
            clear hHeld
            clear hK K
            try simp only [Act.put, List.setIfInBounds_toArray, List.set_cons_zero, List.set_cons_succ]
            refine wpAnyH_ready (rs := [3]) (by kernel_rfl) (by simp) ?_
            refine AllReadyH.cons rfl (fun K hK => ?_) AllReadyH.nil
            go_simp
            refine (hlf _).mono ?_
            rintro r w6 ⟨rfl, rfl⟩
            go_wp2_with fail
            refine hK.out _ _ hHd1 (fun hHd2 => ?_)
            clear hHd1
            clear hK K
            try simp only [Act.put, List.setIfInBounds_toArray, List.set_cons_zero, List.set_cons_succ]
            refine wpAnyH_ready (rs := [4]) (by kernel_rfl) (by simp) ?_
            refine AllReadyH.cons rfl (fun K hK => ?_) AllReadyH.nil
            go_simp
            refine (hof _).mono ?_
            rintro r w7 ⟨rfl, hb7⟩
            go_wp2_with fail
            have hky2 := hky.later hb7
            obtain ⟨x0, x1⟩ := hky2.cells
            have y0 := Rt.row_frozen hky2 0
            have y1 := Rt.row_frozen hky2 1
            refine hK.out _ _ (hHd2.later hb7) (fun hHd3 => ?_)
            clear hHd2 hb7 hky
            clear hK K
            try simp only [Act.put, List.setIfInBounds_toArray, List.set_cons_zero, List.set_cons_succ]
            refine wpAnyH_take (i := 5) (oi := { dst := some 35, op := Op.move (Operand.tmp 40), type := _, pos := _, after := _, guard := none }) (v := .tuple #[.agg #[.int .i64 k.bas, .int .i64 k.stp], .int .i64 0]) rfl (by kernel_rfl) (by kernel_rfl) (by kernel_rfl) (fun _ _ _ h => h) (Or.inl ⟨by rfl, fun w hSw => by (try dsimp only at hSw); go_simp⟩) (by assumption) ?_
            simp only [Act.put, List.setIfInBounds_toArray, List.set_cons_zero, List.set_cons_succ]
            refine wpAnyH_take (i := 6) (oi := { dst := some 41, op := Op.extract (Operand.tmp 35) 0, type := _, pos := _, after := _, guard := none }) (v := .agg #[.int .i64 k.bas, .int .i64 k.stp]) rfl (by kernel_rfl) (by kernel_rfl) (by kernel_rfl) (fun _ _ _ h => h) (Or.inl ⟨by rfl, fun w hSw => by (try dsimp only at hSw); go_simp⟩) (by assumption) ?_
            simp only [Act.put, List.setIfInBounds_toArray, List.set_cons_zero, List.set_cons_succ]
            refine wpAnyH_take (i := 7) (oi := { dst := some 42, op := Op.extract (Operand.tmp 35) 1, type := _, pos := _, after := _, guard := none }) (v := .int .i64 0) rfl (by kernel_rfl) (by kernel_rfl) (by kernel_rfl) (fun _ _ _ h => h) (Or.inl ⟨by rfl, fun w hSw => by (try dsimp only at hSw); go_simp⟩) (by assumption) ?_
            simp only [Act.put, List.setIfInBounds_toArray, List.set_cons_zero, List.set_cons_succ]
            refine wpAnyH_ready (rs := [9]) (by kernel_rfl) (by simp) ?_
            refine AllReadyH.cons rfl (fun K hK => ?_) AllReadyH.nil
            go_simp
            first | (refine hK.out _ _ (hpre.later (below_alloc _ _)) (fun hHd4 => ?_); have hkyZ := Rt.KyAt.new w7 k) | (refine hK.out _ _ (hHd3.two hky2 (Nat.le_refl _) _ _) (fun hHd4 => ?_); have hkyZ := KyAt.set hky2 k.bas k.stp)
            clear hK K
            try simp only [Act.put, List.setIfInBounds_toArray, List.set_cons_zero, List.set_cons_succ]
            refine wpAnyH_take (i := 10) (oi := { dst := some 12, op := Op.assign (Operand.tmp 42), type := _, pos := _, after := _, guard := none }) (v := .int .i64 0) rfl (by kernel_rfl) (by kernel_rfl) (by kernel_rfl) (fun _ _ _ h => h) (Or.inl ⟨by rfl, fun w hSw => by (try dsimp only at hSw); go_simp⟩) (by assumption) ?_
            simp only [Act.put, List.setIfInBounds_toArray, List.set_cons_zero, List.set_cons_succ]
            refine wpAnyH_done (by kernel_rfl) ?_ _
            go_wp2_with fail
            go_meet
            case rel => exact ⟨_, rfl, rfl, hHd4, hkyZ⟩
        case rest =>
          obtain ⟨A, rfl, rfl, hLS, hky9⟩ := hcut
          obtain ⟨x0, x1⟩ := hky9.cells
          have HBK9 : Hid (BK W wc (.slice ar l.length cr) l) := HBK2.out.later hLS.bel
          have hrow := HBK9.out.row
          have hszr := HBK9.out.bel.size
          have hllen : l.length ≤ 64 := by have := HLEN.out; have := HLN.out; omega
          clear HBK2 hLS hky9 hof hlf
          go_wp2_with (at_builtin; (refine wpList_append_own _ rfl _ _ 57 rfl W.heap.size 23 i0 (.agg #[.int .i64 0, .int .i64 0]) 2 16 Tryd.underlying57 hi hz0 hz1 hz2 rfl (by decide) (.slice ar l.length cr) l.length (ps l) rfl (hrow.alloc _) ⟨wc.heap.size, 0, none⟩ 1 1 [.int .i64 k.bas, .int .i64 k.stp] rfl rfl (Rs.cell_two_new _ _ _ _) (by simp [Value.oneCell']) (by unfold maxLen; omega) (by omega) (by simp; omega) ?_); intro v' w8 hown' hg8 _; have HB8 : Hid (BK W w8 v' (l ++ [kpr k])) := HBK9.out.app (p := kpr k) hown' hg8; clear hown' hg8)
          go_roundw
          case rel => exact ⟨m + 1, _, by omega, by go_num, rfl, by rw [HTK.out]; exact HB8.out⟩
          case measure => simp [intOf]; omega
      · obtain rfl : m = lj.length := by omega
        have hdk : decide ((lj.length : Int) < (lj.length : Int)) = false := by simp
        rw [List.take_length] at HBK
        obtain ⟨ks, hks⟩ : ∃ ks, lj.map (fun p => kpr (kyA n (21 + p.2.toNat))) = ks := ⟨_, rfl⟩
        rw [hks] at HBK
        have HKS : Hid (∀ k ∈ ks, ∃ c : Nat, c < 85 ∧ koE (nx t L J) (c : Int) = 0 ∧ k = kpr (koK (nx t L J) (c : Int))) := fun k hk => by
          rw [← hks] at hk
          obtain ⟨q, hq, rfl⟩ := List.mem_map.1 hk
          obtain ⟨s, hs8, hps, hts, _⟩ := HST.out.seat (p := q) (by rw [← HEN.out.2.2.1]; exact hq)
          have h1 := koK_leaf HST.out.tckn hs8 hts
          refine ⟨21 + s, by omega, h1.1, ?_⟩
          rw [hps, Int.toNat_natCast, HEN.out.1, kyA_ko HST.out.tckn (by omega) h1.1]
        have HLK : Hid (ks.length ≤ 64) := by unfold Hid; rw [← hks, List.length_map]; exact HLN.out.2.1
        clear hks
        obtain ⟨ar, cr, rfl⟩ := Rs.owns_slice HBK.out.row
        have hdv := derived_any ar cr ks a3 k3 li wr (by have := HLK.out; omega) (by have := HLN.out; omega) (rdk_of HBK.out.row) (HM.out.2.2.later HBK.out.bel) (fun k hk => by
          obtain ⟨c, hc, h0, e⟩ := HKS.out k hk
          rw [e]
          have := wi_gd (ko_gd HST.out.tckn hc h0)
          rw [kyA_ko HST.out.tckn hc h0] at this
          exact this) (by rw [HEN.out.2.2.2]; exact its_wi HST.out)
        obtain ⟨r0, r1, r2, r3⟩ := (HTR.out.later HBK.out.bel).cells
        go_wp2_with fail
        refine hdv.mono ?_
        rintro r w6 hder
        obtain ⟨b, nn, H, rfl, hDM, hCl⟩ := hder
        have HNO : Hid (∀ d : Nat, d < 85 → koE t (d : Int) = 0 → le1 H (koK t (d : Int)).bas (koK t (d : Int)).stp = false) := fun d hd h0 => back_none HST.out HKS.out (by rw [HEN.out.2.2.2] at hCl; exact hCl) hd h0
        have HB6 : Hid (Below W.heap.size W w6) := HBK.out.bel.trans (hDM.bel.mono HBK.out.bel.size)
        have HMH : Hid (Mh w6 b nn H) := hDM.mh
        clear hdv r0 r1 r2 r3 HBK hDM hCl HKS HLK
        have hof := fun v => rOf_any t htk v
        unfold KeyA at hof
        rw [HT.out] at hof
        go_wp2_with fail
        go_loopw [14] (fun i wx => ∃ d : Nat, d ≤ 85 ∧ i = .int .i64 (d : Int) ∧ Below w6.heap.size w6 wx) (fun i _ => 85 - (intOf i).toNat)
        case atStart => exact ⟨0, by omega, rfl, Below.refl _ _⟩
        case round =>
          obtain ⟨d, hd, rfl, hbx⟩ := hrel
          have HBX : Hid (Below w6.heap.size w6 wr) := hbx
          clear hbx
          by_cases hd8 : d < 85
          · have d0 : (0 : Int) ≤ (d : Int) := by omega
            have d1 : (d : Int) < 85 := by omega
            have hofd := hof (d : Int)
            have HND : Hid (koE t (d : Int) = 0 → le1 H (koK t (d : Int)).bas (koK t (d : Int)).stp = false) := HNO.out d hd8
            have HWK : Hid (koE t (d : Int) = 0 → Wi (koK t (d : Int)).bas) := fun h0 => by
              have := (wi_gd (ko_gd htk hd8 h0)).1
              rw [kyA_ko htk hd8 h0] at this
              exact this
            obtain ⟨E, hE⟩ : ∃ E, koE t (d : Int) = E := ⟨_, rfl⟩
            obtain ⟨k, hk⟩ : ∃ k, koK t (d : Int) = k := ⟨_, rfl⟩
            rw [hE, hk] at hofd HND
            rw [hE, hk] at HWK
            clear hE hk hof
            have hTt := (HX3.out.tr.later HB6.out).later HBX.out
            go_wp2_with (refine rdT hTt HT.out _ rfl rfl rfl ?_)
            refine (hofd _).mono ?_
            rintro r w7 ⟨rfl, hb7⟩
            have hb8 := hb7.trans ((below_alloc w7 (.cells #[.int .i64 k.bas, .int .i64 k.stp] 23)).mono hb7.size)
            have HBX8 : Hid (Below w6.heap.size w6 (w7.alloc (.cells #[.int .i64 k.bas, .int .i64 k.stp] 23))) := HBX.out.trans (hb8.mono HBX.out.size)
            clear hTt hofd hb7 hb8 HBX
            by_cases hE0 : E = 0
            · subst hE0
              have hkn := known_any (w7.alloc (.cells #[.int .i64 k.bas, .int .i64 k.stp] 23)) b nn H (HMH.out.later HBX8.out) k.bas k.stp (HWK.out rfl)
              rw [HND.out rfl] at hkn
              go_wp2_with fail
              refine hkn.mono ?_
              rintro r w8 ⟨rfl, hb8⟩
              have HBX9 : Hid (Below w6.heap.size w6 w8) := HBX8.out.trans (hb8.mono HBX8.out.size)
              clear hkn hb8 HBX8
              go_wp2_with fail
              go_roundw
              case rel => exact ⟨d + 1, by omega, by go_num, HBX9.out⟩
              case measure => simp [intOf]; omega
            · have he2 : (E == 0) = false := by simpa using hE0
              clear hE0
              go_wp2_with fail
              go_roundw
              case rel => exact ⟨d + 1, by omega, by go_num, HBX8.out⟩
              case measure => simp [intOf]; omega
          · obtain rfl : d = 85 := by omega
            rw [show ((85 : Nat) : Int) = 85 from rfl]
            go_wp2_with fail
            go_ret
            exact ⟨rfl, (HX3.out.bel.trans (HB6.out.mono HX3.out.bel.size)).trans (HBX.out.mono (Nat.le_trans HX3.out.bel.size HB6.out.size))⟩
  · have hd2 : (e != 0) = true := by simpa using he0
    have HB : Hid (Below w.heap.size w W) := hX3.bel
    clear he0 tT tR hX3
    go_wp2_with fail
    go_ret
    exact ⟨rfl, HB.out⟩
theorem own : ownKnob Tryd.prog.godebug = none := by kernel_rfl
theorem laidOut : laidOutB Tryd.prog = true := by kernel_rfl
set_option maxRecDepth 20000 in
theorem contract (H : Type) (enc : TypeId × Value → H) (W : World) (base : Nat) (args : Array Value) (ds gs : List (DataW H)) (before : List MemPlace)
    (hval : ∀ (j : Nat) t v, Tryd.f8.params[j]? = some t → args[j]? = some v → Value.okWide Tryd.prog W .any base t v)
    (hW : DataW.Whole enc Tryd.prog Tryd.f8.params.toList Rows.planBackwardSpec.vars false W args.toList ds gs before)
    (hsz : (DataW.weightsEach Tryd.prog (Tryd.f8.params.toList ++ Rows.planBackwardSpec.plain.varTypes Tryd.prog) (ds ++ gs)).all (· ≤ reachBytes) = true)
    (hL : laidMetH Tryd.prog Rows.planBackwardRow.laid W) :
    Calls Tryd.prog 8 args W fun e W' => ∃ v, e = .returned v ∧ Rows.planBackwardSpec.post enc Tryd.prog Tryd.f8 false true false false W args v W' := by
  have hv := vs_of hL
  have hW' := hW
  obtain ⟨p, q, hA0, hV, rfl, hfz, hnd⟩ := hW
  have hA : DataW.TrodAll enc Tryd.prog W 0 (fun _ => true) true Tryd.f8.params.toList args.toList ds p := hA0
  rw [Tryd.params8] at hA hval hsz
  obtain ⟨v0, vs0, d0, ds0, p0, q0, hargs, rfl, rfl, h0, r0⟩ := trodAll_cons hA
  obtain ⟨v1, vs1, d1, ds1, p1, q1, rfl, rfl, rfl, h1, r1⟩ := trodAll_cons r0
  obtain ⟨rfl, rfl, rfl⟩ := trodAll_nil r1
  obtain rfl : args = #[v0, v1] := by cases args; simp_all
  obtain ⟨rfl, rfl⟩ := trodVars_none hV
  have k0 := h0
  have lt0 : ∀ x ∈ p0, x.block < W.heap.size := by obtain ⟨m, hm⟩ := k0; exact DataW.trod_lt m _ _ _ hm
  obtain ⟨f0, rfl⟩ := open_tr (hval 0 31 v0 rfl rfl) h0
  have k1 := h1
  have lt1 : ∀ x ∈ p1, x.block < W.heap.size := by obtain ⟨m, hm⟩ := k1; exact DataW.trod_lt m _ _ _ hm
  obtain ⟨aL1, aJ1, cL1, cJ1, L1, J1, rfl, rL1, rJ1, lL1, lJ1⟩ := open_bt (fun parts e => sized_agg hsz (j := 1) (t := 34) rfl (by rw [← e]; rfl) Tryd.underlying34) (hval 1 34 v1 rfl rfl) h1
  clear hA0
  refine (walk f0 aL1 aJ1 cL1 cJ1 L1 J1 W rL1 rJ1 lL1 lJ1 hv).mono fun e W' ⟨he, bel⟩ => ?_
  subst he
  exact ⟨_, rfl, _, _, _, [], _, [], hW', trodAll_mk1 (shut_bool Tryd.underlying4 _), (trodAll_cons_mk (Below.trod laidOut (by kernel_rfl) (of_decide_eq_true (by kernel_rfl)) k0 bel lt0) (trodAll_cons_mk (Below.trod laidOut (by kernel_rfl) (of_decide_eq_true (by kernel_rfl)) k1 bel lt1) trodAll_mk0)), rfl, bel.frame _, fun h => by cases h⟩
set_option maxRecDepth 100000 in
theorem laid_met (os : Os) : laidMet Tryd.prog Rows.planBackwardRow.laid ((laidWorld os).forCall (fun _ _ => 0) ⟨#[], #[.agg (tcs (tz 0)), .agg #[.slice none 0 0, .slice none 0 0]], []⟩).memory :=
  laidMet_of_run' 8 (by kernel_rfl) (by kernel_rfl)
set_option maxRecDepth 100000 in
theorem reads (os : Os) {H : Type} (enc : TypeId × Value → H) : ∃ places, DataW.whole enc Tryd.prog ((laidWorld os).forCall (fun _ _ => 0) ⟨#[], #[.agg (tcs (tz 0)), .agg #[.slice none 0 0, .slice none 0 0]], []⟩).memory Tryd.f8.params.toList Rows.planBackwardSpec.vars false (#[.agg (tcs (tz 0)), .agg #[.slice none 0 0, .slice none 0 0]] : Array Value).toList 8 = some ([trD, .agg [.nil, .nil]], [], places) :=
  ⟨[], by kernel_rfl⟩
set_option maxRecDepth 100000 in
theorem lifted (os : Os) (started : os.Started) (H : Type) (enc : TypeId × Value → H) (F : Stop.Interp) :
    ReturnsInHanded {} Tryd.checked os 8 .any ((OpenSpec.ofChange Rows.planBackwardSpec).preRow enc Tryd.prog Tryd.f8 Rows.planBackwardRow.domain false Rows.planBackwardRow.laid) (((OpenSpec.ofChange Rows.planBackwardSpec).at F).post enc Tryd.prog Tryd.f8 false true false false) := by
  obtain ⟨places, hx⟩ := reads os enc
  refine returnsInHanded_of_row (C := Tryd.checked) (s := (OpenSpec.ofChange Rows.planBackwardSpec)) own started (by kernel_rfl) Tryd.func8
    (witness_row_at (enc := enc) (C := Tryd.checked) false (laidWorld os) #[.agg (tcs (tz 0)), .agg #[.slice none 0 0, .slice none 0 0]] rfl (by kernel_rfl) (by kernel_rfl) (by kernel_rfl)
      (OpenSpec.preRow_of_cond 8 hx (by kernel_rfl) (fun k hk => by cases hk) (by kernel_rfl) (laid_met os))) ?_
  intro W base args ds gs before hval hW hc1 hc2 hsz hL hsh _
  exact contract H enc W base args ds gs before hval hW hsz hL
theorem said : Rows.PlanBackwardSaid :=
  OpenClaim.holds_of_cond 8 Tryd.f8 rfl rfl rfl rfl rfl rfl rfl ⟨rfl, rfl, rfl, rfl, rfl⟩ rfl rfl rfl rfl rfl (by kernel_rfl) Tryd.func8 (by kernel_rfl)
    (of_decide_eq_true (by kernel_rfl)) (by unfold Func.isWrapper; first | (rw [if_pos (by decide +kernel)]; kernel_rfl) | (rw [if_neg (by decide +kernel)]; exact ⟨rfl, rfl⟩))
    (fun os started H enc _ F => by rw [OpenClaim.pre_eq_preRow]; exact lifted os started H enc F)
theorem plain (f : FuncId) (fn : Func) (hf : Tryd.pinned.checked.prog.funcNamed "coterie/coterielaw12.PlanBackward" = some f) (hfn : Tryd.pinned.checked.prog.funcs[f]? = some fn) :
    false = Tryd.pinned.checked.prog.looks [] ∧ ∀ (j : Nat) t, fn.params[j]? = some t → Tryd.pinned.checked.prog.wantsStandIn t = false := by
  obtain rfl : f = 8 := Option.some.inj ((show Tryd.prog.funcNamed "coterie/coterielaw12.PlanBackward" = some 8 by kernel_rfl).symm.trans hf) |>.symm
  obtain rfl : fn = Tryd.f8 := (Option.some.inj (Tryd.func8.symm.trans hfn)).symm
  refine ⟨by kernel_rfl, fun j t ht => ?_⟩
  rw [Tryd.params8] at ht
  have h31 : Tryd.prog.wantsStandIn 31 = false := by kernel_rfl
  have h34 : Tryd.prog.wantsStandIn 34 = false := by kernel_rfl
  have hm := Array.mem_of_getElem? ht
  simp at hm
  rcases hm with rfl | rfl
  · exact h31
  · exact h34
end Go.Proofs.YtedbnamekfgmhaaDoor.planBackward
namespace Go.Proofs.YtedbnamekfgmhaaDoor
theorem planBackward_holds : Rows.PlanBackwardCardSaid :=
  Claim7.holds_tied_plain_at .later [] _ _ _ _ planBackward.said (fun _ h => by cases h) (by kernel_rfl) (fun _ h => by cases h) planBackward_row_tie rfl ⟨rfl, rfl⟩ (by kernel_rfl) rfl planBackward.plain (by kernel_rfl)
#print axioms planBackward_holds
end Go.Proofs.YtedbnamekfgmhaaDoor
