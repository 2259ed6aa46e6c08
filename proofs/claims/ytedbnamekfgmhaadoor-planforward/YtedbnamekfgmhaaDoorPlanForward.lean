/- For every tree and every batch: of the leavers' leaf and path keys and all boxes of plan.Next's message no key of a node of the new tree is derived: PlanForward, in its first form (the listed variable as the program's text lays it), and the card. -/
import Derived.Test.YtedbnamekfgmhaaDoorCards
import Derived.Test.YtedbnamekfgmhaaDoorTie
import Derived.Test.YtedbnamekfgmhaaDoorPlO
import Derived.Test.YtedbnamekfgmhaaDoorRsK
import Derived.Test.YtedbnamekfgmhaaDoorOpenTr
import Derived.WalkKit
import Derived.ProofKit
import Derived.OpenShut
import Derived.Deep.DeepHandedRow
import Derived.Deep.DeepWitnessRowRef
import Derived.SizedLaws
namespace Go.Proofs.YtedbnamekfgmhaaDoor.planForward
open Go.ChangeShapes Go.WideShapes Go.ChangeAt Go.RowKit Go.Maps Go.Shelf
open Rt (Ky KyAt)
open Rs (tkn En zE rcs RdI RdS ps Tb tb_of laidWorld open_bt sized_agg roD bytesI open_sl evl)
set_option linter.unusedVariables false
set_option linter.unusedSimpArgs false

theorem vs_of {W : World} (hL : laidMetH Tryd.prog Rows.planForwardRow.laid W) : Tb W := tb_of (show laidMet Tryd.prog Rows.planForwardRow.laid W from hL)
def trD {H : Type} : DataW H := .agg [.lit (.int .i64 0), .lit (.int .i64 0), .agg (List.replicate 21 (.agg [.lit (.int .i64 0), .lit (.int .i64 0)])), roD]
def GK (t : Tr) (L : List Int) (k : Int × Int) : Prop := (∃ s : Nat, s < 64 ∧ tkn (t.ro s) = true ∧ (t.ro s).who ∈ L ∧ (k.1 = (koK t ((21 + s : Nat) : Int)).bas ∨ ∃ i, i < 3 ∧ k.1 = (t.ks (pn s i)).bas)) ∧ Wi k.1 ∧ Wi k.2
theorem grown_key {W W1 : World} {n0 : Nat} {v : Value} {n : Nat} {xs : List Value} {o : Obj} (row : W.ownsRow n0 23 2 v n xs) (hg : (W.alloc o).grownBy W1 v.ownBlock) {k : Nat} {cs : Array Value} {T : TypeId} (hk : W.heap[k]? = some (.cells cs T (0, 0))) (hT : T ≠ 23) : W1.heap[k]? = some (.cells cs T (0, 0)) := by
  have hkl := (Array.getElem?_eq_some_iff.1 hk).1
  rw [hg.block k (by simp; omega) (own_type row hk hT)]
  exact (((Below.refl _ W).alloc (Nat.le_refl _) o).block k (by omega)).trans hk
set_option maxRecDepth 100000 in
set_option maxHeartbeats 4000000 in
theorem walk (t : Tr) (aL aJ : Option Addr) (cL cJ : Nat) (L J : List Int) (w : World) (rL : RdI w aL L) (rJ : RdI w aJ J) (lL : L.length * 8 ≤ 140737488351232) (lJ : J.length * 8 ≤ 140737488351232) (hTb : Tb w) :
    Calls Tryd.prog 7 #[.agg (tcs t), .agg #[.slice aL L.length cL, .slice aJ J.length cJ] ] w fun e w' => e = .returned (.bool true) ∧ Below w.heap.size w w' := by
  have hX := TB.new w t aL aJ L.length J.length cL cJ
  obtain ⟨ct, hct⟩ : ∃ c, tcs t = c := ⟨_, rfl⟩
  have HT : Hid (tcs t = ct) := hct
  clear hct
  go_enter Tryd.func7, Tryd.ntmps7
  go_upto_region 1 with (fail)
  generalize (w.alloc (.cells (tcs t) 31)).alloc (.cells #[.slice aL L.length cL, .slice aJ J.length cJ] 34) = w0 at *
  rw [HT.out]
  obtain ⟨C0, hC⟩ : ∃ C, w.heap.size + 1 = C := ⟨_, rfl⟩
  rw [hC] at hX ⊢
  obtain ⟨B, hB⟩ : ∃ B, w.heap.size = B := ⟨_, rfl⟩
  rw [hB] at hX ⊢
  clear hC hB
  have hl := lives_any w0 (hTb.later hX.bel)
  go_wp2_with fail
  refine hl.mono ?_
  rintro r w1 ⟨rfl, hb1⟩
  have hX1 := hX.later hb1
  clear hl hX hb1
  have h1 := next_any t aL aJ cL cJ L J w1 (hTb.later hX1.bel) (by omega) (by omega) (rL.later hX1.bel) (rJ.later hX1.bel)
  rw [HT.out] at h1
  have hT1 := hX1.tr
  obtain ⟨d0, d1⟩ := hX1.bt.cells
  go_wp2_with (refine rdT hT1 HT.out _ rfl rfl rfl ?_)
  refine h1.mono ?_
  rintro r w2 ⟨⟨vl, vj, vi, rfl, hNP⟩, hb2⟩
  have hX2 := hX1.later hb2
  have g1 := hNP.left
  have g2 := hNP.join
  have g3 := hNP.item
  obtain ⟨a1, k1, rfl⟩ := Rs.owns_slice g1
  obtain ⟨a2, k2, rfl⟩ := Rs.owns_slice g2
  obtain ⟨a3, k3, rfl⟩ := Rs.owns_slice g3
  have m1 := rds_of g1
  have m2 := rds_of g2
  have m3 := owns_rdT g3
  have f1 := pnL_len t L J
  have f2 := pnJ_len t L J
  have f3 := pnI_short t L J
  have HOK : Hid (plE t L J = 0 → Stp t L J ∧ pnT t L J = nx t L J ∧ pnL t L J = evl t.ro L ∧ pnJ t L J = jns t L J ∧ pnI t L J = its (nx t L J) (plR t L) (jns t L J)) := fun h => by
    refine ⟨plE_stp h, ?_, ?_, ?_, ?_⟩
    · unfold pnT; rw [if_pos h]
    · unfold pnL; rw [if_pos h]
    · unfold pnJ; rw [if_pos h]
    · unfold pnI; rw [if_pos h]
  obtain ⟨n, hn⟩ : ∃ n, pnT t L J = n := ⟨_, rfl⟩
  obtain ⟨ll, hll⟩ : ∃ l, pnL t L J = l := ⟨_, rfl⟩
  obtain ⟨lj, hlj⟩ : ∃ l, pnJ t L J = l := ⟨_, rfl⟩
  obtain ⟨li, hli⟩ : ∃ l, pnI t L J = l := ⟨_, rfl⟩
  obtain ⟨e, he⟩ : ∃ e, plE t L J = e := ⟨_, rfl⟩
  obtain ⟨p, hp⟩ : ∃ e, pnP t L J = e := ⟨_, rfl⟩
  rw [hll, hlj, hli, he, hp, hn]
  rw [hll] at m1 f1 HOK
  rw [hlj] at m2 f2 HOK
  rw [hli] at m3 f3 HOK
  rw [he, hn] at HOK
  obtain ⟨cn, hcn⟩ : ∃ c, tcs n = c := ⟨_, rfl⟩
  have HC : Hid (tcs n = cn) := hcn
  rw [hcn]
  obtain ⟨t1, t2, W, hW, tT, tR, tB⟩ := two_boxes w2 n cn #[.int .i64 p, .slice a1 ll.length k1, .slice a2 lj.length k2, .slice a3 li.length k3] hcn
  have hX3 := hX2.later tB
  have HM : Hid (RdS W a1 ll ∧ RdS W a2 lj ∧ RdT W a3 li) := ⟨m1.later tB, m2.later tB, m3.later tB⟩
  have HLN : Hid (ll.length ≤ 64 ∧ lj.length ≤ 64 ∧ li.length ≤ 4096) := ⟨f1, f2, f3⟩
  clear h1 hX1 hX2 hT1 hb2 d0 d1 hNP hn hll hlj hli he hp hcn tB f1 f2 f3 g1 g2 g3 m1 m2 m3
  go_upto_region 4 with (first | (refine stTc t1 HC.out rfl _ _ rfl rfl rfl ?_) | (refine stRw infoRk (cs := rkz) rkz_size t2 _ rfl (rk_one _ _ _ _ _ _ _ _ _ _) rfl _ _ rfl rfl rfl ?_))
  clear t1 t2 hW
  generalize w2.heap.size = N at *
  by_cases he0 : e = 0
  · subst he0
    obtain ⟨hst, en, el, ej, ei⟩ := HOK.out rfl
    have HST : Hid (Stp t L J) := hst
    have HEN : Hid (n = nx t L J ∧ ll = evl t.ro L ∧ lj = jns t L J ∧ li = its (nx t L J) (plR t L) (jns t L J)) := ⟨en, el, ej, ei⟩
    have htn : tck n = true := by rw [en]; exact hst.tckn
    have htk : tck t = true := hst.ok
    obtain ⟨r0, r1, r2, r3⟩ := tR.cells
    obtain ⟨i0, hi, hz0, hz1, hz2⟩ := infoKey_parts
    have HTT : Hid (TrAt W N n) := tT
    have HTR : Hid (RkAt W (N + 1) #[.int .i64 p, .slice a1 ll.length k1, .slice a2 lj.length k2, .slice a3 li.length k3]) := tR
    have HX3 : Hid (TB w W B C0 t aL aJ L.length J.length cL cJ) := hX3
    clear hst en el ej ei HOK tT tR hX3
    go_wp2_with fail
    go_loopw [8, 34] (fun x i wx => ∃ (m : Nat) (v : Value) (l : List (Int × Int)), m ≤ ll.length ∧ i = .int .i64 (m : Int) ∧ v = x ∧ BK W wx v l ∧ l.length ≤ 4 * m ∧ ∀ k ∈ l, GK t L k) (fun _ i _ => ll.length - (intOf i).toNat)
    case atStart => exact ⟨0, _, [], by omega, rfl, rfl, ⟨Below.refl _ _, World.ownsRow_nil _ _ _ _⟩, by simp, by simp⟩
    case round =>
      obtain ⟨m, v, l, hm, rfl, rfl, hbk, hl4, hgk⟩ := hrel
      have HBK : Hid (BK W wr v l) := hbk
      have HL4 : Hid (l.length ≤ 4 * m) := hl4
      have HGK : Hid (∀ k ∈ l, GK t L k) := hgk
      clear hbk hl4 hgk r0 r1 r2 r3
      by_cases hmN : m < ll.length
      · have hm64 : m < 64 := by have := HLN.out; omega
        have i1 : (0 : Int) ≤ (m : Int) := by omega
        have i2 : (m : Int) < (ll.length : Int) := by omega
        obtain ⟨g, hal, hc0, hc1⟩ := (HM.out.1.later HBK.out.bel) m hmN
        obtain ⟨s, hs8, hps, hts, hwho, hinL⟩ := HST.out.left (p := ll.getD m (0, 0)) (by rw [← HEN.out.2.1]; exact getD_in hmN)
        have HSL : Hid (s < 64 ∧ tkn (t.ro s) = true ∧ (t.ro s).who ∈ L) := ⟨hs8, hts, by rw [hwho]; exact hinL⟩
        clear hwho hinL
        obtain ⟨q, hq⟩ : ∃ q, ll.getD m (0, 0) = q := ⟨_, rfl⟩
        rw [hq] at hc0 hc1 hps
        obtain ⟨px, py⟩ := q
        dsimp only at hc0 hc1 hps
        subst hps
        subst hal
        clear hq
        obtain ⟨ar, cr, rfl⟩ := Rs.owns_slice HBK.out.row
        have hks := koK_leaf htk hs8 hts
        have hof := rOf_any t htk ((21 + s : Nat) : Int)
        unfold KeyA at hof
        rw [hks.1, HT.out] at hof
        obtain ⟨k, hk⟩ : ∃ k, koK t ((21 + s : Nat) : Int) = k := ⟨_, rfl⟩
        have HKE : Hid (GK t L (kpr k)) := ⟨⟨s, hs8, hts, HSL.out.2.2, Or.inl (by rw [hk]; rfl)⟩, by have := wi_gd (ko_gd htk (show 21 + s < 85 by omega) hks.1); rw [kyA_ko htk (by omega) hks.1, hk] at this; exact this⟩
        rw [hk] at hof
        rw [show (((21 + s : Nat) : Int)) = 21 + (s : Int) by push_cast; rfl] at hof
        have hlf := Sh.rLeaf_any (s : Int)
        rw [Sh.lef_yes (by omega) (by omega)] at hlf
        have hpa := rPath_pn s hs8
        obtain ⟨z, hz⟩ : ∃ z, 21 + (s : Int) = z := ⟨_, rfl⟩
        rw [hz] at hof hlf
        clear hz hk hks hts
        have hSE : StAt (wr.alloc (.cells #[.int .i64 px, .int .i64 (s : Int)] 49)) wr.heap.size (px, (s : Int)) := heap_alloc_last wr _
        have HBK2 : Hid (BK W (wr.alloc (.cells #[.int .i64 px, .int .i64 (s : Int)] 49)) (.slice ar l.length cr) l) := HBK.out.later (below_alloc _ _)
        clear HBK
        go_upto_region 10 with (fail)
        generalize wr.alloc (.cells #[.int .i64 px, .int .i64 (s : Int)] 49) = w5 at *
        generalize wr.heap.size = C at *
        go_cut [11, 12] (fun s11 s12 wx => ∃ A, s11 = .pointer (some ⟨A, 0, none⟩) ∧ s12 = .int .i64 0 ∧ LS w5 wx B C t (px, (s : Int)) ∧ KyAt wx A k)
        case first =>
          have hS0 : LS w5 w5.drew B C t (px, (s : Int)) := LS.later ⟨HX3.out.tr.later HBK2.out.bel, hSE, Below.refl _ _⟩ (drew_below _)
          clear hSE
          refine wp_region_held_drew (S := fun X => LS w5 X B C t (px, (s : Int))) (by kernel_rfl) hS0 (fun hHeld => ?_)
          refine wpAnyH_take (i := 0) (oi := { dst := some 39, op := Op.load 31 (Operand.tmp 2), type := _, pos := _, after := _, guard := none }) (v := .agg ct) rfl (by kernel_rfl) (by kernel_rfl) (by kernel_rfl) (fun _ _ _ h => h) (Or.inl ⟨by rfl, fun w hSw => ld_exec (HT.out ▸ hSw.tr.whole) rfl rfl⟩) (by assumption) ?_
          simp only [Act.put, List.setIfInBounds_toArray, List.set_cons_zero, List.set_cons_succ]
          refine wpAnyH_take (i := 1) (oi := { dst := some 40, op := Op.fieldAddr 49 (Operand.tmp 10) 1, type := _, pos := _, after := _, guard := none }) (v := .pointer (some ⟨C, 1, none⟩)) rfl (by kernel_rfl) (by kernel_rfl) (by kernel_rfl) (fun _ _ _ h => h) (Or.inl ⟨by rfl, fun w hSw => by (try dsimp only at hSw); go_simp⟩) (by assumption) ?_
          simp only [Act.put, List.setIfInBounds_toArray, List.set_cons_zero, List.set_cons_succ]
          refine wpAnyH_take (i := 2) (oi := { dst := some 41, op := Op.load 3 (Operand.tmp 40), type := _, pos := _, after := _, guard := none }) (v := .int .i64 (s : Int)) rfl (by kernel_rfl) (by kernel_rfl) (by kernel_rfl) (fun _ _ _ h => h) (Or.inl ⟨by rfl, fun w hSw => by obtain ⟨x0, x1⟩ := hSw.se.cells; dsimp only at x0 x1; clear hSw; go_simp⟩) (by assumption) ?_
          simp only [Act.put, List.setIfInBounds_toArray, List.set_cons_zero, List.set_cons_succ]
          refine wpAnyH_ready (rs := [3, 8]) (by kernel_rfl) (by simp) ?_
          refine (AllReadyH.cons rfl (fun K hK => ?_) (AllReadyH.cons rfl (fun K hK => ?_) AllReadyH.nil))
          · go_simp
            refine (hlf _).mono ?_
            rintro r w6 ⟨rfl, rfl⟩
            go_wp2_with fail
            refine hK.out _ _ hHeld (fun hHd1 => ?_)
            clear hHeld
            clear hK K
            try simp only [Act.put, List.setIfInBounds_toArray, List.set_cons_zero, List.set_cons_succ]
            refine wpAnyH_ready (rs := [4, 8]) (by kernel_rfl) (by simp) ?_
            refine (AllReadyH.cons rfl (fun K hK => ?_) (AllReadyH.cons rfl (fun K hK => ?_) AllReadyH.nil))
            · go_simp
              refine (hof _).mono ?_
              rintro r w7 ⟨rfl, hb7⟩
              go_wp2_with fail
              refine hK.out _ _ (hHd1.later hb7) (fun hHd2 => ?_)
              clear hHd1 hb7
              clear hK K
              try simp only [Act.put, List.setIfInBounds_toArray, List.set_cons_zero, List.set_cons_succ]
              refine wpAnyH_take (i := 5) (oi := { dst := some 38, op := Op.move (Operand.tmp 43), type := _, pos := _, after := _, guard := none }) (v := .tuple #[.agg #[.int .i64 k.bas, .int .i64 k.stp], .int .i64 0]) rfl (by kernel_rfl) (by kernel_rfl) (by kernel_rfl) (fun _ _ _ h => h) (Or.inl ⟨by rfl, fun w hSw => by (try dsimp only at hSw); go_simp⟩) (by assumption) ?_
              simp only [Act.put, List.setIfInBounds_toArray, List.set_cons_zero, List.set_cons_succ]
              refine wpAnyH_take (i := 6) (oi := { dst := some 44, op := Op.extract (Operand.tmp 38) 0, type := _, pos := _, after := _, guard := none }) (v := .agg #[.int .i64 k.bas, .int .i64 k.stp]) rfl (by kernel_rfl) (by kernel_rfl) (by kernel_rfl) (fun _ _ _ h => h) (Or.inl ⟨by rfl, fun w hSw => by (try dsimp only at hSw); go_simp⟩) (by assumption) ?_
              simp only [Act.put, List.setIfInBounds_toArray, List.set_cons_zero, List.set_cons_succ]
              refine wpAnyH_take (i := 7) (oi := { dst := some 45, op := Op.extract (Operand.tmp 38) 1, type := _, pos := _, after := _, guard := none }) (v := .int .i64 0) rfl (by kernel_rfl) (by kernel_rfl) (by kernel_rfl) (fun _ _ _ h => h) (Or.inl ⟨by rfl, fun w hSw => by (try dsimp only at hSw); go_simp⟩) (by assumption) ?_
              simp only [Act.put, List.setIfInBounds_toArray, List.set_cons_zero, List.set_cons_succ]
              refine wpAnyH_ready (rs := [8]) (by kernel_rfl) (by simp) ?_
              refine AllReadyH.cons rfl (fun K hK => ?_) AllReadyH.nil
              go_simp
              have hpre := hHd2
              refine hK.out _ _ (hHd2.later (below_alloc _ _)) (fun hHd3 => ?_)
              clear hK K
              try simp only [Act.put, List.setIfInBounds_toArray, List.set_cons_zero, List.set_cons_succ]
              refine wpAnyH_ready (rs := [9]) (by kernel_rfl) (by simp) ?_
              refine AllReadyH.cons rfl (fun K hK => ?_) AllReadyH.nil
              go_simp
              first | (refine hK.out _ _ (hpre.later (below_alloc _ _)) (fun hHd4 => ?_); have hkyZ := Rt.KyAt.new w7 k) | (refine hK.out _ _ (hHd3.two hky2 (Nat.le_refl _) _ _) (fun hHd4 => ?_); have hkyZ := KyAt.set hky2 k.bas k.stp)
              clear hK K
              try simp only [Act.put, List.setIfInBounds_toArray, List.set_cons_zero, List.set_cons_succ]
              refine wpAnyH_take (i := 10) (oi := { dst := some 12, op := Op.assign (Operand.tmp 45), type := _, pos := _, after := _, guard := none }) (v := .int .i64 0) rfl (by kernel_rfl) (by kernel_rfl) (by kernel_rfl) (fun _ _ _ h => h) (Or.inl ⟨by rfl, fun w hSw => by (try dsimp only at hSw); go_simp⟩) (by assumption) ?_
              simp only [Act.put, List.setIfInBounds_toArray, List.set_cons_zero, List.set_cons_succ]
              refine wpAnyH_done (by kernel_rfl) ?_ _
              go_wp2_with fail
              go_meet
              case rel => exact ⟨_, rfl, rfl, hHd4, hkyZ⟩
            · go_simp
              have hky : KyAt (w5.drew.alloc (.cells #[.int .i64 0, .int .i64 0] 23)) w5.heap.size Rt.zK := Rt.KyAt.new w5.drew Rt.zK
              refine hK.out _ _ (hHd1.later (below_alloc _ _)) (fun hHd2 => ?_)
              clear hHd1
              clear hK K
              try simp only [Act.put, List.setIfInBounds_toArray, List.set_cons_zero, List.set_cons_succ]
              refine wpAnyH_ready (rs := [4]) (by kernel_rfl) (by simp) ?_
              refine AllReadyH.cons rfl (fun K hK => ?_) AllReadyH.nil
              go_simp
              refine (hof _).mono ?_
              rintro r w7 ⟨rfl, hb7⟩
              go_wp2_with fail
              have hky2 := hky.later hb7
              obtain ⟨x0, x1⟩ := hky2.cells
              have y0 := Rt.row_frozen hky2 0
              have y1 := Rt.row_frozen hky2 1
              refine hK.out _ _ (hHd2.later hb7) (fun hHd3 => ?_)
              clear hHd2 hb7 hky
              clear hK K
              try simp only [Act.put, List.setIfInBounds_toArray, List.set_cons_zero, List.set_cons_succ]
              refine wpAnyH_take (i := 5) (oi := { dst := some 38, op := Op.move (Operand.tmp 43), type := _, pos := _, after := _, guard := none }) (v := .tuple #[.agg #[.int .i64 k.bas, .int .i64 k.stp], .int .i64 0]) rfl (by kernel_rfl) (by kernel_rfl) (by kernel_rfl) (fun _ _ _ h => h) (Or.inl ⟨by rfl, fun w hSw => by (try dsimp only at hSw); go_simp⟩) (by assumption) ?_
              simp only [Act.put, List.setIfInBounds_toArray, List.set_cons_zero, List.set_cons_succ]
              refine wpAnyH_take (i := 6) (oi := { dst := some 44, op := Op.extract (Operand.tmp 38) 0, type := _, pos := _, after := _, guard := none }) (v := .agg #[.int .i64 k.bas, .int .i64 k.stp]) rfl (by kernel_rfl) (by kernel_rfl) (by kernel_rfl) (fun _ _ _ h => h) (Or.inl ⟨by rfl, fun w hSw => by (try dsimp only at hSw); go_simp⟩) (by assumption) ?_
              simp only [Act.put, List.setIfInBounds_toArray, List.set_cons_zero, List.set_cons_succ]
              refine wpAnyH_take (i := 7) (oi := { dst := some 45, op := Op.extract (Operand.tmp 38) 1, type := _, pos := _, after := _, guard := none }) (v := .int .i64 0) rfl (by kernel_rfl) (by kernel_rfl) (by kernel_rfl) (fun _ _ _ h => h) (Or.inl ⟨by rfl, fun w hSw => by (try dsimp only at hSw); go_simp⟩) (by assumption) ?_
              simp only [Act.put, List.setIfInBounds_toArray, List.set_cons_zero, List.set_cons_succ]
              refine wpAnyH_ready (rs := [9]) (by kernel_rfl) (by simp) ?_
              refine AllReadyH.cons rfl (fun K hK => ?_) AllReadyH.nil
              go_simp
              first | (refine hK.out _ _ (hpre.later (below_alloc _ _)) (fun hHd4 => ?_); have hkyZ := Rt.KyAt.new w7 k) | (refine hK.out _ _ (hHd3.two hky2 (Nat.le_refl _) _ _) (fun hHd4 => ?_); have hkyZ := KyAt.set hky2 k.bas k.stp)
              clear hK K
              try simp only [Act.put, List.setIfInBounds_toArray, List.set_cons_zero, List.set_cons_succ]
              refine wpAnyH_take (i := 10) (oi := { dst := some 12, op := Op.assign (Operand.tmp 45), type := _, pos := _, after := _, guard := none }) (v := .int .i64 0) rfl (by kernel_rfl) (by kernel_rfl) (by kernel_rfl) (fun _ _ _ h => h) (Or.inl ⟨by rfl, fun w hSw => by (try dsimp only at hSw); go_simp⟩) (by assumption) ?_
              simp only [Act.put, List.setIfInBounds_toArray, List.set_cons_zero, List.set_cons_succ]
              refine wpAnyH_done (by kernel_rfl) ?_ _
              go_wp2_with fail
              go_meet
              case rel => exact ⟨_, rfl, rfl, hHd4, hkyZ⟩
          · go_simp
            have hky : KyAt (w5.drew.alloc (.cells #[.int .i64 0, .int .i64 0] 23)) w5.heap.size Rt.zK := Rt.KyAt.new w5.drew Rt.zK
            refine hK.out _ _ (hHeld.later (below_alloc _ _)) (fun hHd1 => ?_)
            clear hHeld
            clear hK K
            try simp only [Act.put, List.setIfInBounds_toArray, List.set_cons_zero, List.set_cons_succ]
            refine wpAnyH_ready (rs := [3]) (by kernel_rfl) (by simp) ?_
            refine AllReadyH.cons rfl (fun K hK => ?_) AllReadyH.nil
            go_simp
            refine (hlf _).mono ?_
            rintro r w6 ⟨rfl, rfl⟩
            go_wp2_with fail
            refine hK.out _ _ hHd1 (fun hHd2 => ?_)
            clear hHd1
            clear hK K
            try simp only [Act.put, List.setIfInBounds_toArray, List.set_cons_zero, List.set_cons_succ]
            refine wpAnyH_ready (rs := [4]) (by kernel_rfl) (by simp) ?_
            refine AllReadyH.cons rfl (fun K hK => ?_) AllReadyH.nil
            go_simp
            refine (hof _).mono ?_
            rintro r w7 ⟨rfl, hb7⟩
            go_wp2_with fail
            have hky2 := hky.later hb7
            obtain ⟨x0, x1⟩ := hky2.cells
            have y0 := Rt.row_frozen hky2 0
            have y1 := Rt.row_frozen hky2 1
            refine hK.out _ _ (hHd2.later hb7) (fun hHd3 => ?_)
            clear hHd2 hb7 hky
            clear hK K
            try simp only [Act.put, List.setIfInBounds_toArray, List.set_cons_zero, List.set_cons_succ]
            refine wpAnyH_take (i := 5) (oi := { dst := some 38, op := Op.move (Operand.tmp 43), type := _, pos := _, after := _, guard := none }) (v := .tuple #[.agg #[.int .i64 k.bas, .int .i64 k.stp], .int .i64 0]) rfl (by kernel_rfl) (by kernel_rfl) (by kernel_rfl) (fun _ _ _ h => h) (Or.inl ⟨by rfl, fun w hSw => by (try dsimp only at hSw); go_simp⟩) (by assumption) ?_
            simp only [Act.put, List.setIfInBounds_toArray, List.set_cons_zero, List.set_cons_succ]
            refine wpAnyH_take (i := 6) (oi := { dst := some 44, op := Op.extract (Operand.tmp 38) 0, type := _, pos := _, after := _, guard := none }) (v := .agg #[.int .i64 k.bas, .int .i64 k.stp]) rfl (by kernel_rfl) (by kernel_rfl) (by kernel_rfl) (fun _ _ _ h => h) (Or.inl ⟨by rfl, fun w hSw => by (try dsimp only at hSw); go_simp⟩) (by assumption) ?_
            simp only [Act.put, List.setIfInBounds_toArray, List.set_cons_zero, List.set_cons_succ]
            refine wpAnyH_take (i := 7) (oi := { dst := some 45, op := Op.extract (Operand.tmp 38) 1, type := _, pos := _, after := _, guard := none }) (v := .int .i64 0) rfl (by kernel_rfl) (by kernel_rfl) (by kernel_rfl) (fun _ _ _ h => h) (Or.inl ⟨by rfl, fun w hSw => by (try dsimp only at hSw); go_simp⟩) (by assumption) ?_
            simp only [Act.put, List.setIfInBounds_toArray, List.set_cons_zero, List.set_cons_succ]
            refine wpAnyH_ready (rs := [9]) (by kernel_rfl) (by simp) ?_
            refine AllReadyH.cons rfl (fun K hK => ?_) AllReadyH.nil
            go_simp
            first | (refine hK.out _ _ (hpre.later (below_alloc _ _)) (fun hHd4 => ?_); have hkyZ := Rt.KyAt.new w7 k) | (refine hK.out _ _ (hHd3.two hky2 (Nat.le_refl _) _ _) (fun hHd4 => ?_); have hkyZ := KyAt.set hky2 k.bas k.stp)
            clear hK K
            try simp only [Act.put, List.setIfInBounds_toArray, List.set_cons_zero, List.set_cons_succ]
            refine wpAnyH_take (i := 10) (oi := { dst := some 12, op := Op.assign (Operand.tmp 45), type := _, pos := _, after := _, guard := none }) (v := .int .i64 0) rfl (by kernel_rfl) (by kernel_rfl) (by kernel_rfl) (fun _ _ _ h => h) (Or.inl ⟨by rfl, fun w hSw => by (try dsimp only at hSw); go_simp⟩) (by assumption) ?_
            simp only [Act.put, List.setIfInBounds_toArray, List.set_cons_zero, List.set_cons_succ]
            refine wpAnyH_done (by kernel_rfl) ?_ _
            go_wp2_with fail
            go_meet
            case rel => exact ⟨_, rfl, rfl, hHd4, hkyZ⟩
        case rest =>
          obtain ⟨A, rfl, rfl, hLS, hky9⟩ := hcut
          obtain ⟨x0, x1⟩ := hky9.cells
          have HBK9 : Hid (BK W wc (.slice ar l.length cr) l) := HBK2.out.later hLS.bel
          have hrow := HBK9.out.row
          have hszr := HBK9.out.bel.size
          have hllen : l.length ≤ 256 := by have := HL4.out; omega
          have HSE9 : Hid (StAt wc C (px, (s : Int))) := hLS.se
          clear HBK2 hLS hky9 hof hlf
          go_upto_region 14 with (at_builtin; (refine wpList_append_own _ rfl _ _ 57 rfl W.heap.size 23 i0 (.agg #[.int .i64 0, .int .i64 0]) 2 16 Tryd.underlying57 hi hz0 hz1 hz2 rfl (by decide) (.slice ar l.length cr) l.length (ps l) rfl (hrow.alloc _) ⟨wc.heap.size, 0, none⟩ 1 1 [.int .i64 k.bas, .int .i64 k.stp] rfl rfl (Rs.cell_two_new _ _ _ _) (by simp [Value.oneCell']) (by unfold maxLen; omega) (by omega) (by simp; omega) ?_); intro v' w8 hown' hg8 _; have HSE8 : Hid (StAt w8 C (px, (s : Int))) := grown_key hrow hg8 HSE9.out (by decide); have HB8 : Hid (BK W w8 v' (l ++ [kpr k])) := HBK9.out.app (p := kpr k) hown' hg8; clear hown' hg8)
          have HL5 : Hid ((l ++ [kpr k]).length ≤ 4 * m + 1) := by unfold Hid; have := HL4.out; simp; omega
          have HG5 : Hid (∀ x ∈ l ++ [kpr k], GK t L x) := fun x hx => by
            rcases List.mem_append.1 hx with h | h
            · exact HGK.out x h
            · rw [List.mem_singleton.1 h]; exact HKE.out
          obtain ⟨l5, hl5⟩ : ∃ l5, l ++ [kpr k] = l5 := ⟨_, rfl⟩
          rw [hl5] at HB8 HL5 HG5
          obtain ⟨ar5, cr5, rfl⟩ := Rs.owns_slice HB8.out.row
          clear hl5 HL4 HGK HKE HBK9 hrow hszr hllen x0 x1 HSE9
          obtain ⟨se0, se1⟩ := HSE8.out.cells
          dsimp only at se0 se1
          go_wp2_with fail
          refine (hpa _).mono ?_
          rintro r' w4 ⟨rfl, hb4⟩
          have hb5 := hb4.trans ((below_alloc w4 (.cells #[.int .i64 (pn s 0 : Nat), .int .i64 (pn s 1 : Nat), .int .i64 (pn s 2 : Nat)] 61)).mono hb4.size)
          have HB5 : Hid (BK W (w4.alloc (.cells #[.int .i64 (pn s 0 : Nat), .int .i64 (pn s 1 : Nat), .int .i64 (pn s 2 : Nat)] 61)) (.slice ar5 l5.length cr5) l5) := HB8.out.later hb5
          have HPA5 : Hid (Pa3 (w4.alloc (.cells #[.int .i64 (pn s 0 : Nat), .int .i64 (pn s 1 : Nat), .int .i64 (pn s 2 : Nat)] 61)) w4.heap.size (pn s 0) (pn s 1) (pn s 2)) := heap_alloc_last w4 _
          clear hpa HSE8 hb4 hb5 se0 se1 HB8
          go_upto_region 16 with (fail)
          generalize w4.alloc (.cells #[.int .i64 (pn s 0 : Nat), .int .i64 (pn s 1 : Nat), .int .i64 (pn s 2 : Nat)] 61) = w5 at *
          generalize w4.heap.size = A2 at *
          obtain ⟨p0, hp0⟩ : ∃ p0, pn s 0 = p0 := ⟨_, rfl⟩
          obtain ⟨p1, hp1⟩ : ∃ p0, pn s 1 = p0 := ⟨_, rfl⟩
          obtain ⟨p2, hp2⟩ : ∃ p0, pn s 2 = p0 := ⟨_, rfl⟩
          have HP0 : Hid (pn s 0 = p0 ∧ p0 < 21) := ⟨hp0, hp0 ▸ pn_lt hs8 0⟩
          have HP1 : Hid (pn s 1 = p1 ∧ p1 < 21) := ⟨hp1, hp1 ▸ pn_lt hs8 1⟩
          have HP2 : Hid (pn s 2 = p2 ∧ p2 < 21) := ⟨hp2, hp2 ▸ pn_lt hs8 2⟩
          rw [hp0, hp1, hp2] at HPA5
          clear hp0 hp1 hp2
          go_wp2_with fail
          go_loopw [8, 15] (fun x i wx => ∃ (j : Nat) (v : Value) (l : List (Int × Int)), j ≤ 3 ∧ i = .int .i64 (j : Int) ∧ v = x ∧ BK W wx v l ∧ Pa3 wx A2 p0 p1 p2 ∧ l.length ≤ 4 * m + 1 + j ∧ ∀ k ∈ l, GK t L k) (fun _ i _ => 3 - (intOf i).toNat)
          case atStart => exact ⟨0, _, l5, by omega, rfl, rfl, HB5.out, HPA5.out, HL5.out, HG5.out⟩
          case round =>
            obtain ⟨j, v, l, hj, rfl, rfl, hbk, hpa3, hl4, hgk⟩ := hrel
            have HBK : Hid (BK W wr v l) := hbk
            have HPA : Hid (Pa3 wr A2 p0 p1 p2) := hpa3
            have HL4 : Hid (l.length ≤ 4 * m + 1 + j) := hl4
            have HGK : Hid (∀ k ∈ l, GK t L k) := hgk
            clear hbk hpa3 hl4 hgk HB5 HPA5 HL5 HG5
            obtain ⟨ar6, cr6, rfl⟩ := Rs.owns_slice HBK.out.row
            have hj3 : j = 0 ∨ j = 1 ∨ j = 2 ∨ j = 3 := by omega
            rcases hj3 with rfl | rfl | rfl | rfl
            · rw [show ((0 : Nat) : Int) = 0 from rfl]
              have hpl : p0 < 21 := HP0.out.2
              have q0 : (0 : Int) ≤ (p0 : Int) := by omega
              have q1 : (p0 : Int) < 21 := by omega
              obtain ⟨x0, x1, x2⟩ := Pa3.cells HPA.out
              obtain ⟨c0, c1⟩ := (HX3.out.tr.later HBK.out.bel).key p0 hpl
              have HKE : Hid (GK t L (kpr (t.ks p0))) := ⟨⟨s, HSL.out.1, HSL.out.2.1, HSL.out.2.2, Or.inr ⟨0, by omega, by rw [HP0.out.1]; rfl⟩⟩, wi_gd (ks_gd htk hpl)⟩
              obtain ⟨k2, hk2⟩ : ∃ k2, t.ks p0 = k2 := ⟨_, rfl⟩
              rw [hk2] at c0 c1 HKE
              have hrow := HBK.out.row
              have hszr := HBK.out.bel.size
              have hllen : l.length ≤ 300 := by have := HL4.out; omega
              clear hk2
              go_wp2_with (at_builtin; (refine wpList_append_own _ rfl _ _ 57 rfl W.heap.size 23 i0 (.agg #[.int .i64 0, .int .i64 0]) 2 16 Tryd.underlying57 hi hz0 hz1 hz2 rfl (by decide) (.slice ar6 l.length cr6) l.length (ps l) rfl (hrow.alloc _) ⟨wr.heap.size, 0, none⟩ 1 1 [.int .i64 k2.bas, .int .i64 k2.stp] rfl rfl (Rs.cell_two_new _ _ _ _) (by simp [Value.oneCell']) (by unfold maxLen; omega) (by omega) (by simp; omega) ?_); intro v' w8 hown' hg8 _; have HPA8 : Hid (Pa3 w8 A2 p0 p1 p2) := grown_key hrow hg8 HPA.out (by decide); have HB8 : Hid (BK W w8 v' (l ++ [kpr k2])) := HBK.out.app (p := kpr k2) hown' hg8; clear hown' hg8)
              go_roundw
              case rel => exact ⟨0 + 1, _, l ++ [kpr k2], by omega, by go_num, rfl, HB8.out, HPA8.out, by have := HL4.out; simp; omega, fun x hx => by
                rcases List.mem_append.1 hx with h | h
                · exact HGK.out x h
                · rw [List.mem_singleton.1 h]; exact HKE.out⟩
              case measure => simp [intOf]
            · rw [show ((1 : Nat) : Int) = 1 from rfl]
              have hpl : p1 < 21 := HP1.out.2
              have q0 : (0 : Int) ≤ (p1 : Int) := by omega
              have q1 : (p1 : Int) < 21 := by omega
              obtain ⟨x0, x1, x2⟩ := Pa3.cells HPA.out
              obtain ⟨c0, c1⟩ := (HX3.out.tr.later HBK.out.bel).key p1 hpl
              have HKE : Hid (GK t L (kpr (t.ks p1))) := ⟨⟨s, HSL.out.1, HSL.out.2.1, HSL.out.2.2, Or.inr ⟨1, by omega, by rw [HP1.out.1]; rfl⟩⟩, wi_gd (ks_gd htk hpl)⟩
              obtain ⟨k2, hk2⟩ : ∃ k2, t.ks p1 = k2 := ⟨_, rfl⟩
              rw [hk2] at c0 c1 HKE
              have hrow := HBK.out.row
              have hszr := HBK.out.bel.size
              have hllen : l.length ≤ 300 := by have := HL4.out; omega
              clear hk2
              go_wp2_with (at_builtin; (refine wpList_append_own _ rfl _ _ 57 rfl W.heap.size 23 i0 (.agg #[.int .i64 0, .int .i64 0]) 2 16 Tryd.underlying57 hi hz0 hz1 hz2 rfl (by decide) (.slice ar6 l.length cr6) l.length (ps l) rfl (hrow.alloc _) ⟨wr.heap.size, 0, none⟩ 1 1 [.int .i64 k2.bas, .int .i64 k2.stp] rfl rfl (Rs.cell_two_new _ _ _ _) (by simp [Value.oneCell']) (by unfold maxLen; omega) (by omega) (by simp; omega) ?_); intro v' w8 hown' hg8 _; have HPA8 : Hid (Pa3 w8 A2 p0 p1 p2) := grown_key hrow hg8 HPA.out (by decide); have HB8 : Hid (BK W w8 v' (l ++ [kpr k2])) := HBK.out.app (p := kpr k2) hown' hg8; clear hown' hg8)
              go_roundw
              case rel => exact ⟨1 + 1, _, l ++ [kpr k2], by omega, by go_num, rfl, HB8.out, HPA8.out, by have := HL4.out; simp; omega, fun x hx => by
                rcases List.mem_append.1 hx with h | h
                · exact HGK.out x h
                · rw [List.mem_singleton.1 h]; exact HKE.out⟩
              case measure => simp [intOf]
            · rw [show ((2 : Nat) : Int) = 2 from rfl]
              have hpl : p2 < 21 := HP2.out.2
              have q0 : (0 : Int) ≤ (p2 : Int) := by omega
              have q1 : (p2 : Int) < 21 := by omega
              obtain ⟨x0, x1, x2⟩ := Pa3.cells HPA.out
              obtain ⟨c0, c1⟩ := (HX3.out.tr.later HBK.out.bel).key p2 hpl
              have HKE : Hid (GK t L (kpr (t.ks p2))) := ⟨⟨s, HSL.out.1, HSL.out.2.1, HSL.out.2.2, Or.inr ⟨2, by omega, by rw [HP2.out.1]; rfl⟩⟩, wi_gd (ks_gd htk hpl)⟩
              obtain ⟨k2, hk2⟩ : ∃ k2, t.ks p2 = k2 := ⟨_, rfl⟩
              rw [hk2] at c0 c1 HKE
              have hrow := HBK.out.row
              have hszr := HBK.out.bel.size
              have hllen : l.length ≤ 300 := by have := HL4.out; omega
              clear hk2
              go_wp2_with (at_builtin; (refine wpList_append_own _ rfl _ _ 57 rfl W.heap.size 23 i0 (.agg #[.int .i64 0, .int .i64 0]) 2 16 Tryd.underlying57 hi hz0 hz1 hz2 rfl (by decide) (.slice ar6 l.length cr6) l.length (ps l) rfl (hrow.alloc _) ⟨wr.heap.size, 0, none⟩ 1 1 [.int .i64 k2.bas, .int .i64 k2.stp] rfl rfl (Rs.cell_two_new _ _ _ _) (by simp [Value.oneCell']) (by unfold maxLen; omega) (by omega) (by simp; omega) ?_); intro v' w8 hown' hg8 _; have HPA8 : Hid (Pa3 w8 A2 p0 p1 p2) := grown_key hrow hg8 HPA.out (by decide); have HB8 : Hid (BK W w8 v' (l ++ [kpr k2])) := HBK.out.app (p := kpr k2) hown' hg8; clear hown' hg8)
              go_roundw
              case rel => exact ⟨2 + 1, _, l ++ [kpr k2], by omega, by go_num, rfl, HB8.out, HPA8.out, by have := HL4.out; simp; omega, fun x hx => by
                rcases List.mem_append.1 hx with h | h
                · exact HGK.out x h
                · rw [List.mem_singleton.1 h]; exact HKE.out⟩
              case measure => simp [intOf]
            · rw [show ((3 : Nat) : Int) = 3 from rfl]
              go_wp2_with fail
              go_roundw
              case rel => exact ⟨m + 1, _, l, by omega, by go_num, rfl, HBK.out, by have := HL4.out; omega, HGK.out⟩
              case measure => simp [intOf]; omega
      · obtain rfl : m = ll.length := by omega
        have hdk : decide ((ll.length : Int) < (ll.length : Int)) = false := by simp
        have HLK : Hid (l.length ≤ 256) := by unfold Hid; have := HL4.out; have := HLN.out; omega
        have HKS := HGK
        clear HGK HL4
        obtain ⟨ks, hks⟩ : ∃ ks, l = ks := ⟨_, rfl⟩
        subst hks
        obtain ⟨ar, cr, rfl⟩ := Rs.owns_slice HBK.out.row
        have hdv := derived_any ar cr l a3 k3 li wr (by have := HLK.out; omega) (by have := HLN.out; omega) (rdk_of HBK.out.row) (HM.out.2.2.later HBK.out.bel) (fun k hk => (HKS.out k hk).2) (by rw [HEN.out.2.2.2]; exact its_wi HST.out)
        obtain ⟨r0, r1, r2, r3⟩ := (HTR.out.later HBK.out.bel).cells
        go_wp2_with fail
        refine hdv.mono ?_
        rintro r w6 hder
        obtain ⟨b, nn, H, rfl, hDM, hCl⟩ := hder
        have HNO : Hid (∀ d : Nat, d < 85 → koE n (d : Int) = 0 → le1 H (koK n (d : Int)).bas (koK n (d : Int)).stp = false) := fun d hd h0 => by
          rw [HEN.out.1] at h0 ⊢
          exact fwd_none HST.out (fun k hk => (HKS.out k hk).1) (by rw [HEN.out.2.2.2] at hCl; exact hCl) hd h0
        have HB6 : Hid (Below W.heap.size W w6) := HBK.out.bel.trans (hDM.bel.mono HBK.out.bel.size)
        have HMH : Hid (Mh w6 b nn H) := hDM.mh
        clear hdv r0 r1 r2 r3 HBK hDM hCl HKS HLK
        have hof := fun v => rOf_any n htn v
        unfold KeyA at hof
        rw [HC.out] at hof
        go_wp2_with fail
        go_loopw [17] (fun i wx => ∃ d : Nat, d ≤ 85 ∧ i = .int .i64 (d : Int) ∧ Below w6.heap.size w6 wx) (fun i _ => 85 - (intOf i).toNat)
        case atStart => exact ⟨0, by omega, rfl, Below.refl _ _⟩
        case round =>
          obtain ⟨d, hd, rfl, hbx⟩ := hrel
          have HBX : Hid (Below w6.heap.size w6 wr) := hbx
          clear hbx
          by_cases hd8 : d < 85
          · have d0 : (0 : Int) ≤ (d : Int) := by omega
            have d1 : (d : Int) < 85 := by omega
            have hofd := hof (d : Int)
            have HND : Hid (koE n (d : Int) = 0 → le1 H (koK n (d : Int)).bas (koK n (d : Int)).stp = false) := HNO.out d hd8
            have HWK : Hid (koE n (d : Int) = 0 → Wi (koK n (d : Int)).bas) := fun h0 => by
              have := (wi_gd (ko_gd htn hd8 h0)).1
              rw [kyA_ko htn hd8 h0] at this
              exact this
            obtain ⟨E, hE⟩ : ∃ E, koE n (d : Int) = E := ⟨_, rfl⟩
            obtain ⟨k, hk⟩ : ∃ k, koK n (d : Int) = k := ⟨_, rfl⟩
            rw [hE, hk] at hofd HND
            rw [hE, hk] at HWK
            clear hE hk hof
            have hTt := (HTT.out.later HB6.out).later HBX.out
            go_wp2_with (refine rdT hTt HC.out _ rfl rfl rfl ?_)
            refine (hofd _).mono ?_
            rintro r w7 ⟨rfl, hb7⟩
            have hb8 := hb7.trans ((below_alloc w7 (.cells #[.int .i64 k.bas, .int .i64 k.stp] 23)).mono hb7.size)
            have HBX8 : Hid (Below w6.heap.size w6 (w7.alloc (.cells #[.int .i64 k.bas, .int .i64 k.stp] 23))) := HBX.out.trans (hb8.mono HBX.out.size)
            clear hTt hofd hb7 hb8 HBX
            by_cases hE0 : E = 0
            · subst hE0
              have hkn := known_any (w7.alloc (.cells #[.int .i64 k.bas, .int .i64 k.stp] 23)) b nn H (HMH.out.later HBX8.out) k.bas k.stp (HWK.out rfl)
              rw [HND.out rfl] at hkn
              go_wp2_with fail
              refine hkn.mono ?_
              rintro r w8 ⟨rfl, hb8⟩
              have HBX9 : Hid (Below w6.heap.size w6 w8) := HBX8.out.trans (hb8.mono HBX8.out.size)
              clear hkn hb8 HBX8
              go_wp2_with fail
              go_roundw
              case rel => exact ⟨d + 1, by omega, by go_num, HBX9.out⟩
              case measure => simp [intOf]; omega
            · have he2 : (E == 0) = false := by simpa using hE0
              clear hE0
              go_wp2_with fail
              go_roundw
              case rel => exact ⟨d + 1, by omega, by go_num, HBX8.out⟩
              case measure => simp [intOf]; omega
          · obtain rfl : d = 85 := by omega
            rw [show ((85 : Nat) : Int) = 85 from rfl]
            go_wp2_with fail
            go_ret
            exact ⟨rfl, (HX3.out.bel.trans (HB6.out.mono HX3.out.bel.size)).trans (HBX.out.mono (Nat.le_trans HX3.out.bel.size HB6.out.size))⟩
  · have hd2 : (e != 0) = true := by simpa using he0
    have HB : Hid (Below w.heap.size w W) := hX3.bel
    clear he0 tT tR hX3
    go_wp2_with fail
    go_ret
    exact ⟨rfl, HB.out⟩
theorem own : ownKnob Tryd.prog.godebug = none := by kernel_rfl
theorem laidOut : laidOutB Tryd.prog = true := by kernel_rfl
set_option maxRecDepth 20000 in
theorem contract (H : Type) (enc : TypeId × Value → H) (W : World) (base : Nat) (args : Array Value) (ds gs : List (DataW H)) (before : List MemPlace)
    (hval : ∀ (j : Nat) t v, Tryd.f7.params[j]? = some t → args[j]? = some v → Value.okWide Tryd.prog W .any base t v)
    (hW : DataW.Whole enc Tryd.prog Tryd.f7.params.toList Rows.planForwardSpec.vars false W args.toList ds gs before)
    (hsz : (DataW.weightsEach Tryd.prog (Tryd.f7.params.toList ++ Rows.planForwardSpec.plain.varTypes Tryd.prog) (ds ++ gs)).all (· ≤ reachBytes) = true)
    (hL : laidMetH Tryd.prog Rows.planForwardRow.laid W) :
    Calls Tryd.prog 7 args W fun e W' => ∃ v, e = .returned v ∧ Rows.planForwardSpec.post enc Tryd.prog Tryd.f7 false true false false W args v W' := by
  have hv := vs_of hL
  have hW' := hW
  obtain ⟨p, q, hA0, hV, rfl, hfz, hnd⟩ := hW
  have hA : DataW.TrodAll enc Tryd.prog W 0 (fun _ => true) true Tryd.f7.params.toList args.toList ds p := hA0
  rw [Tryd.params7] at hA hval hsz
  obtain ⟨v0, vs0, d0, ds0, p0, q0, hargs, rfl, rfl, h0, r0⟩ := trodAll_cons hA
  obtain ⟨v1, vs1, d1, ds1, p1, q1, rfl, rfl, rfl, h1, r1⟩ := trodAll_cons r0
  obtain ⟨rfl, rfl, rfl⟩ := trodAll_nil r1
  obtain rfl : args = #[v0, v1] := by cases args; simp_all
  obtain ⟨rfl, rfl⟩ := trodVars_none hV
  have k0 := h0
  have lt0 : ∀ x ∈ p0, x.block < W.heap.size := by obtain ⟨m, hm⟩ := k0; exact DataW.trod_lt m _ _ _ hm
  obtain ⟨f0, rfl⟩ := open_tr (hval 0 31 v0 rfl rfl) h0
  have k1 := h1
  have lt1 : ∀ x ∈ p1, x.block < W.heap.size := by obtain ⟨m, hm⟩ := k1; exact DataW.trod_lt m _ _ _ hm
  obtain ⟨aL1, aJ1, cL1, cJ1, L1, J1, rfl, rL1, rJ1, lL1, lJ1⟩ := open_bt (fun parts e => sized_agg hsz (j := 1) (t := 34) rfl (by rw [← e]; rfl) Tryd.underlying34) (hval 1 34 v1 rfl rfl) h1
  clear hA0
  refine (walk f0 aL1 aJ1 cL1 cJ1 L1 J1 W rL1 rJ1 lL1 lJ1 hv).mono fun e W' ⟨he, bel⟩ => ?_
  subst he
  exact ⟨_, rfl, _, _, _, [], _, [], hW', trodAll_mk1 (shut_bool Tryd.underlying4 _), (trodAll_cons_mk (Below.trod laidOut (by kernel_rfl) (of_decide_eq_true (by kernel_rfl)) k0 bel lt0) (trodAll_cons_mk (Below.trod laidOut (by kernel_rfl) (of_decide_eq_true (by kernel_rfl)) k1 bel lt1) trodAll_mk0)), rfl, bel.frame _, fun h => by cases h⟩
set_option maxRecDepth 100000 in
theorem laid_met (os : Os) : laidMet Tryd.prog Rows.planForwardRow.laid ((laidWorld os).forCall (fun _ _ => 0) ⟨#[], #[.agg (tcs (tz 0)), .agg #[.slice none 0 0, .slice none 0 0]], []⟩).memory :=
  laidMet_of_run' 8 (by kernel_rfl) (by kernel_rfl)
set_option maxRecDepth 100000 in
theorem reads (os : Os) {H : Type} (enc : TypeId × Value → H) : ∃ places, DataW.whole enc Tryd.prog ((laidWorld os).forCall (fun _ _ => 0) ⟨#[], #[.agg (tcs (tz 0)), .agg #[.slice none 0 0, .slice none 0 0]], []⟩).memory Tryd.f7.params.toList Rows.planForwardSpec.vars false (#[.agg (tcs (tz 0)), .agg #[.slice none 0 0, .slice none 0 0]] : Array Value).toList 8 = some ([trD, .agg [.nil, .nil]], [], places) :=
  ⟨[], by kernel_rfl⟩
set_option maxRecDepth 100000 in
theorem lifted (os : Os) (started : os.Started) (H : Type) (enc : TypeId × Value → H) (F : Stop.Interp) :
    ReturnsInHanded {} Tryd.checked os 7 .any ((OpenSpec.ofChange Rows.planForwardSpec).preRow enc Tryd.prog Tryd.f7 Rows.planForwardRow.domain false Rows.planForwardRow.laid) (((OpenSpec.ofChange Rows.planForwardSpec).at F).post enc Tryd.prog Tryd.f7 false true false false) := by
  obtain ⟨places, hx⟩ := reads os enc
  refine returnsInHanded_of_row (C := Tryd.checked) (s := (OpenSpec.ofChange Rows.planForwardSpec)) own started (by kernel_rfl) Tryd.func7
    (witness_row_at (enc := enc) (C := Tryd.checked) false (laidWorld os) #[.agg (tcs (tz 0)), .agg #[.slice none 0 0, .slice none 0 0]] rfl (by kernel_rfl) (by kernel_rfl) (by kernel_rfl)
      (OpenSpec.preRow_of_cond 8 hx (by kernel_rfl) (fun k hk => by cases hk) (by kernel_rfl) (laid_met os))) ?_
  intro W base args ds gs before hval hW hc1 hc2 hsz hL hsh _
  exact contract H enc W base args ds gs before hval hW hsz hL
theorem said : Rows.PlanForwardSaid :=
  OpenClaim.holds_of_cond 7 Tryd.f7 rfl rfl rfl rfl rfl rfl rfl ⟨rfl, rfl, rfl, rfl, rfl⟩ rfl rfl rfl rfl rfl (by kernel_rfl) Tryd.func7 (by kernel_rfl)
    (of_decide_eq_true (by kernel_rfl)) (by unfold Func.isWrapper; first | (rw [if_pos (by decide +kernel)]; kernel_rfl) | (rw [if_neg (by decide +kernel)]; exact ⟨rfl, rfl⟩))
    (fun os started H enc _ F => by rw [OpenClaim.pre_eq_preRow]; exact lifted os started H enc F)
theorem plain (f : FuncId) (fn : Func) (hf : Tryd.pinned.checked.prog.funcNamed "coterie/coterielaw12.PlanForward" = some f) (hfn : Tryd.pinned.checked.prog.funcs[f]? = some fn) :
    false = Tryd.pinned.checked.prog.looks [] ∧ ∀ (j : Nat) t, fn.params[j]? = some t → Tryd.pinned.checked.prog.wantsStandIn t = false := by
  obtain rfl : f = 7 := Option.some.inj ((show Tryd.prog.funcNamed "coterie/coterielaw12.PlanForward" = some 7 by kernel_rfl).symm.trans hf) |>.symm
  obtain rfl : fn = Tryd.f7 := (Option.some.inj (Tryd.func7.symm.trans hfn)).symm
  refine ⟨by kernel_rfl, fun j t ht => ?_⟩
  rw [Tryd.params7] at ht
  have h31 : Tryd.prog.wantsStandIn 31 = false := by kernel_rfl
  have h34 : Tryd.prog.wantsStandIn 34 = false := by kernel_rfl
  have hm := Array.mem_of_getElem? ht
  simp at hm
  rcases hm with rfl | rfl
  · exact h31
  · exact h34
end Go.Proofs.YtedbnamekfgmhaaDoor.planForward
namespace Go.Proofs.YtedbnamekfgmhaaDoor
theorem planForward_holds : Rows.PlanForwardCardSaid :=
  Claim7.holds_tied_plain_at .later [] _ _ _ _ planForward.said (fun _ h => by cases h) (by kernel_rfl) (fun _ h => by cases h) planForward_row_tie rfl ⟨rfl, rfl⟩ (by kernel_rfl) rfl planForward.plain (by kernel_rfl)
#print axioms planForward_holds
end Go.Proofs.YtedbnamekfgmhaaDoor
