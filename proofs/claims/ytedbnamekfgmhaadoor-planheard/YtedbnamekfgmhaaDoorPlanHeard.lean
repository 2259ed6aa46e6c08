/- For every tree and every batch: who stays gets, from its old keys and plan.Next's message, all of its new keys, and so does, from its leaf key, who joins: PlanHeard, in its first form (the listed variable as the program's text lays it), and the card. -/
import Derived.Test.YtedbnamekfgmhaaDoorCards
import Derived.Test.YtedbnamekfgmhaaDoorTie
import Derived.Test.YtedbnamekfgmhaaDoorPlR
import Derived.Test.YtedbnamekfgmhaaDoorRsK
import Derived.Test.YtedbnamekfgmhaaDoorOpenTr
import Derived.WalkKit
import Derived.ProofKit
import Derived.OpenShut
import Derived.Deep.DeepHandedRow
import Derived.Deep.DeepWitnessRowRef
import Derived.SizedLaws
namespace Go.Proofs.YtedbnamekfgmhaaDoor.planHeard
open Go.ChangeShapes Go.WideShapes Go.ChangeAt Go.RowKit Go.Maps Go.Shelf
open Rt (Ky KyAt)
open Rs (tkn En zE rcs RdI RdS ps Tb tb_of laidWorld open_bt sized_agg roD bytesI open_sl evl)
set_option linter.unusedVariables false
set_option linter.unusedSimpArgs false

theorem vs_of {W : World} (hL : laidMetH Tryd.prog Rows.planHeardRow.laid W) : Tb W := tb_of (show laidMet Tryd.prog Rows.planHeardRow.laid W from hL)
def trD {H : Type} : DataW H := .agg [.lit (.int .i64 0), .lit (.int .i64 0), .agg (List.replicate 21 (.agg [.lit (.int .i64 0), .lit (.int .i64 0)])), roD]
def mh1 (l : List Int) : Int → Option Int := fun x => if x ∈ l then some 1 else none
theorem mh1_nil : mh1 [] = fun _ => none := by funext x; simp [mh1]
theorem mh1_snoc (l : List Int) (z : Int) : mh1 (l ++ [z]) = hup (mh1 l) z 1 := by
  funext x
  unfold mh1 hup
  by_cases e : x = z
  · subst e; simp
  · simp [e]
theorem mh1_yes {l : List Int} {x : Int} (h : x ∈ l) : (mh1 l x).getD 0 = 1 := by unfold mh1; rw [if_pos h]; rfl
theorem mh1_no {l : List Int} {x : Int} (h : x ∉ l) : (mh1 l x).getD 0 = 0 := by unfold mh1; rw [if_neg h]; rfl
theorem look0 {w : World} {b n : Nat} {H : Int → Option Int} (h : Mh w b n H) {x : Int} (hx : Wi x) : (Instr.lookup 54 (.map (some b)) (.int .i64 x) false).run Tryd.prog w = .ok (.int .i64 ((H x).getD 0)) w := by
  obtain ⟨D, h1, h2⟩ := h
  obtain ⟨c, hrun, hat, _⟩ := h1.lookup_int intK Tryd.underlying54 Tryd.underlying3 (zeroI w) (keyOf_int_mk Tryd.underlying3 hx)
  rw [(h2 x).2] at hat
  have e : (H x).getD 0 = c := by simpa using hat
  rw [e]
  exact hrun
theorem uni_of {t : Tr} {L J : List Int} (h : Stp t L J) : Uni (nx t L J) (its (nx t L J) (plR t L) (jns t L J)) := fun x hx => by
  obtain ⟨v, c, e, hi⟩ := item_of h hx
  exact ⟨v, c, e, hi.lv, hi.lc, hld_leaf h.tckn hi.lc hi.held⟩
theorem has_child {t : Tr} {r : Nat} {js : List (Int × Int)} {s j : Nat} (hs : s < 64) (hj : j < 3) (ht : tkn (t.ro s) = true) (hb : r.testBit (pn s j) = true) : hasI (its t r js) ((pn s j : Nat) : Int) ((bel s j : Nat) : Int) = true := hasI_yes (item_child (js := js) hs hj ht hb) rfl rfl
theorem has_join {t : Tr} {r : Nat} {js : List (Int × Int)} {s j : Nat} {p : Int × Int} (hp : p ∈ js) (hs : p.2 = (s : Int)) (hj : j < 3) (hb : r.testBit (pn s j) = false) : hasI (its t r js) ((pn s j : Nat) : Int) ((21 + s : Nat) : Int) = true := hasI_yes (item_join (t := t) hp hs hj hb) rfl rfl
theorem fj_of {t : Tr} {L J : List Int} (h : Stp t L J) {s j : Nat} (hs : s < 64) (hj : j < 3) (ht : tkn ((nx t L J).ro s) = true) : FJ t (nx t L J) (its (nx t L J) (plR t L) (jns t L J)) (rp (evl t.ro L)) s j :=
  ⟨ks_gd h.ok (pn_lt hs j), by have h1 := (h.rt.fk _ (pn_lt hs j)).2; have h2 := h.ep; omega, fun hb => has_child hs hj ht hb, fun hb => by
    rcases h.key (pn_lt hs j) with ⟨h1, _⟩ | ⟨_, h2⟩
    · have h3 : (plR t L).testBit (pn s j) = false := hb
      rw [h3] at h1; cases h1
    · exact h2⟩
set_option maxRecDepth 100000 in
set_option maxHeartbeats 4000000 in
theorem walk (t : Tr) (aL aJ : Option Addr) (cL cJ : Nat) (L J : List Int) (w : World) (rL : RdI w aL L) (rJ : RdI w aJ J) (lL : L.length * 8 ≤ 140737488351232) (lJ : J.length * 8 ≤ 140737488351232) (hTb : Tb w) :
    Calls Tryd.prog 6 #[.agg (tcs t), .agg #[.slice aL L.length cL, .slice aJ J.length cJ] ] w fun e w' => e = .returned (.bool true) ∧ Below w.heap.size w w' := by
  have hX := TB.new w t aL aJ L.length J.length cL cJ
  obtain ⟨ct, hct⟩ : ∃ c, tcs t = c := ⟨_, rfl⟩
  have HT : Hid (tcs t = ct) := hct
  clear hct
  go_enter Tryd.func6, Tryd.ntmps6
  go_upto_region 1 with (fail)
  generalize (w.alloc (.cells (tcs t) 31)).alloc (.cells #[.slice aL L.length cL, .slice aJ J.length cJ] 34) = w0 at *
  rw [HT.out]
  obtain ⟨C0, hC⟩ : ∃ C, w.heap.size + 1 = C := ⟨_, rfl⟩
  rw [hC] at hX ⊢
  obtain ⟨B, hB⟩ : ∃ B, w.heap.size = B := ⟨_, rfl⟩
  rw [hB] at hX ⊢
  clear hC hB
  have hl := lives_any w0 (hTb.later hX.bel)
  go_wp2_with fail
  refine hl.mono ?_
  rintro r w1 ⟨rfl, hb1⟩
  have hX1 := hX.later hb1
  clear hl hX hb1
  have h1 := next_any t aL aJ cL cJ L J w1 (hTb.later hX1.bel) (by omega) (by omega) (rL.later hX1.bel) (rJ.later hX1.bel)
  rw [HT.out] at h1
  have hT1 := hX1.tr
  obtain ⟨d0, d1⟩ := hX1.bt.cells
  go_wp2_with (refine rdT hT1 HT.out _ rfl rfl rfl ?_)
  refine h1.mono ?_
  rintro r w2 ⟨⟨vl, vj, vi, rfl, hNP⟩, hb2⟩
  have hX2 := hX1.later hb2
  have g1 := hNP.left
  have g2 := hNP.join
  have g3 := hNP.item
  obtain ⟨a1, k1, rfl⟩ := Rs.owns_slice g1
  obtain ⟨a2, k2, rfl⟩ := Rs.owns_slice g2
  obtain ⟨a3, k3, rfl⟩ := Rs.owns_slice g3
  have m1 := rds_of g1
  have m2 := rds_of g2
  have m3 := owns_rdT g3
  have f1 := pnL_len t L J
  have f2 := pnJ_len t L J
  have f3 := pnI_short t L J
  have HOK : Hid (plE t L J = 0 → Stp t L J ∧ pnT t L J = nx t L J ∧ pnL t L J = evl t.ro L ∧ pnJ t L J = jns t L J ∧ pnI t L J = its (nx t L J) (plR t L) (jns t L J)) := fun h => by
    refine ⟨plE_stp h, ?_, ?_, ?_, ?_⟩
    · unfold pnT; rw [if_pos h]
    · unfold pnL; rw [if_pos h]
    · unfold pnJ; rw [if_pos h]
    · unfold pnI; rw [if_pos h]
  have HNO : Hid (plE t L J ≠ 0 → pnT t L J = tz 0 ∧ pnI t L J = []) := fun h => ⟨by unfold pnT; rw [if_neg h], by unfold pnI; rw [if_neg h]⟩
  obtain ⟨n, hn⟩ : ∃ n, pnT t L J = n := ⟨_, rfl⟩
  obtain ⟨ll, hll⟩ : ∃ l, pnL t L J = l := ⟨_, rfl⟩
  obtain ⟨lj, hlj⟩ : ∃ l, pnJ t L J = l := ⟨_, rfl⟩
  obtain ⟨li, hli⟩ : ∃ l, pnI t L J = l := ⟨_, rfl⟩
  obtain ⟨e, he⟩ : ∃ e, plE t L J = e := ⟨_, rfl⟩
  obtain ⟨p, hp⟩ : ∃ e, pnP t L J = e := ⟨_, rfl⟩
  rw [hll, hlj, hli, he, hp, hn]
  rw [hll] at m1 f1 HOK
  rw [hlj] at m2 f2 HOK
  rw [hli] at m3 f3 HOK HNO
  rw [he, hn] at HOK HNO
  obtain ⟨cn, hcn⟩ : ∃ c, tcs n = c := ⟨_, rfl⟩
  have HC : Hid (tcs n = cn) := hcn
  rw [hcn]
  obtain ⟨t1, t2, W, hW, tT, tR, tB⟩ := two_boxes w2 n cn #[.int .i64 p, .slice a1 ll.length k1, .slice a2 lj.length k2, .slice a3 li.length k3] hcn
  have hX3 := hX2.later tB
  have HM : Hid (RdS W a1 ll ∧ RdS W a2 lj ∧ RdT W a3 li) := ⟨m1.later tB, m2.later tB, m3.later tB⟩
  have HLN : Hid (ll.length ≤ 64 ∧ lj.length ≤ 64 ∧ li.length ≤ 4096) := ⟨f1, f2, f3⟩
  clear h1 hX1 hX2 hT1 hb2 d0 d1 hNP hn hll hlj hli he hp hcn tB f1 f2 f3 g1 g2 g3 m1 m2 m3
  go_upto_region 4 with (first | (refine stTc t1 HC.out rfl _ _ rfl rfl rfl ?_) | (refine stRw infoRk (cs := rkz) rkz_size t2 _ rfl (rk_one _ _ _ _ _ _ _ _ _ _) rfl _ _ rfl rfl rfl ?_))
  clear t1 t2 hW
  generalize w2.heap.size = N at *
  by_cases he0 : e = 0
  · subst he0
    obtain ⟨hst, en, el, ej, ei⟩ := HOK.out rfl
    have HST : Hid (Stp t L J) := hst
    have HEN : Hid (n = nx t L J ∧ ll = evl t.ro L ∧ lj = jns t L J ∧ li = its (nx t L J) (plR t L) (jns t L J)) := ⟨en, el, ej, ei⟩
    have htn : tck n = true := by rw [en]; exact hst.tckn
    have htk : tck t = true := hst.ok
    have hmm := @run_makeMap Tryd.prog
    have HTT : Hid (TrAt W N n) := tT
    have HTR : Hid (RkAt W (N + 1) #[.int .i64 p, .slice a1 ll.length k1, .slice a2 lj.length k2, .slice a3 li.length k3]) := tR
    have HX3 : Hid (TB w W B C0 t aL aJ L.length J.length cL cJ) := hX3
    clear hst en el ej ei HOK tT tR hX3
    go_upto_region 7 with (fail)
    have HDM : Hid (DM W (W.alloc (.map #[] 0)) W.heap.size 0 (mh1 (([] : List (Int × Int)).map (·.2)))) := ⟨by rw [List.map_nil, mh1_nil]; exact Mh.new W, below_alloc _ _, Nat.le_refl _⟩
    clear hmm
    generalize W.alloc (.map #[] 0) = w3 at *
    obtain ⟨b, hb⟩ : ∃ b, W.heap.size = b := ⟨_, rfl⟩
    rw [hb] at HDM
    rw [hb]
    clear hb
    obtain ⟨r0, r1, r2, r3⟩ := (HTR.out.later HDM.out.bel).cells
    go_wp2_with fail
    go_loopw [36] (fun i wx => ∃ k nn : Nat, k ≤ lj.length ∧ i = .int .i64 (k : Int) ∧ nn ≤ k ∧ DM W wx b nn (mh1 ((lj.take k).map (·.2)))) (fun i _ => lj.length - (intOf i).toNat)
    case atStart => exact ⟨0, 0, by omega, rfl, by omega, HDM.out⟩
    case round =>
      obtain ⟨k, nn, hk, rfl, hnn, hDM⟩ := hrel
      have HD : Hid (DM W wr b nn (mh1 ((lj.take k).map (·.2)))) := hDM
      clear hDM HDM r0 r1 r2 r3
      have hk64 : lj.length ≤ 64 := HLN.out.2.1
      by_cases hkN : k < lj.length
      · have i1 : (0 : Int) ≤ (k : Int) := by omega
        have i2 : (k : Int) < (lj.length : Int) := by omega
        obtain ⟨g, hal, hc0, hc1⟩ := (HM.out.2.1.later HD.out.bel) k hkN
        obtain ⟨sj, hs8, hps, _⟩ := HST.out.seat (p := lj.getD k (0, 0)) (by rw [← HEN.out.2.2.1]; exact getD_in hkN)
        have HTK : Hid (mh1 ((lj.take (k + 1)).map (·.2)) = hup (mh1 ((lj.take k).map (·.2))) (sj : Int) 1) := by
          unfold Hid
          rw [take_snoc2 hkN, List.map_append, ← hps]
          exact mh1_snoc _ _
        obtain ⟨q, hq⟩ : ∃ q, lj.getD k (0, 0) = q := ⟨_, rfl⟩
        rw [hq] at hc0 hc1 hps
        obtain ⟨px, py⟩ := q
        dsimp only at hc0 hc1 hps
        subst hps
        subst hal
        clear hq
        have hwf : Wi (sj : Int) := wi_of (by omega) (by omega)
        have hw1 : Wi 1 := wi_of (by omega) (by omega)
        have HD1 : Hid (DM W (wr.alloc (.cells #[.int .i64 px, .int .i64 (sj : Int)] 49)) b nn (mh1 ((lj.take k).map (·.2)))) := HD.out.later (below_alloc _ _)
        have hn62 : nn < 4611686018427387904 := by omega
        clear HD
        go_wp2_with (refine HD1.out.mh.upd hn62 hwf hw1 rfl _ _ _ rfl rfl rfl rfl ?_; intro w' hm' hg')
        go_roundw
        case rel => exact ⟨k + 1, nn + 1, by omega, by go_num, by omega, by rw [HTK.out]; exact HD1.out.upd hm' hg'⟩
        case measure => simp [intOf]; omega
      · obtain rfl : k = lj.length := by omega
        have hdk : decide ((lj.length : Int) < (lj.length : Int)) = false := by simp
        rw [List.take_length] at HD
        obtain ⟨w6, hw6⟩ : ∃ w6, wr = w6 := ⟨_, rfl⟩
        rw [hw6] at HD ⊢
        clear hw6
        go_wp2_with fail
        go_loopw [11] (fun i wx => ∃ s : Nat, s ≤ 64 ∧ i = .int .i64 (s : Int) ∧ Below w6.heap.size w6 wx) (fun i _ => 64 - (intOf i).toNat)
        case atStart => exact ⟨0, by omega, rfl, Below.refl _ _⟩
        case round =>
          obtain ⟨s, hs, rfl, hbx⟩ := hrel
          have HBX : Hid (Below W.heap.size W wr) := HD.out.bel.trans (hbx.mono HD.out.bel.size)
          have HBY : Hid (Below w6.heap.size w6 wr) := hbx
          have HMH : Hid (Mh wr b nn (mh1 (lj.map (·.2)))) := HD.out.mh.later hbx
          clear hbx
          by_cases hs8 : s < 64
          · have s0 : (0 : Int) ≤ (s : Int) := by omega
            have s1 : (s : Int) < 64 := by omega
            obtain ⟨e0, e1, e2⟩ := (HTT.out.later HBX.out).ent s hs8
            have HTS : Hid (tkn (n.ro s) = !decide ((n.ro s).bas = 0)) := rfl
            obtain ⟨x, hx⟩ : ∃ x, n.ro s = x := ⟨_, rfl⟩
            have HXE : Hid (n.ro s = x) := hx
            rw [hx] at e0 e1 e2 HTS
            clear hx
            by_cases hz : x.bas = 0
            · have hz2 : (x.bas == 0) = true := by simpa using hz
              clear hz HMH
              go_wp2_with fail
              go_roundw
              case rel => exact ⟨s + 1, by omega, by go_num, HBY.out⟩
              case measure => simp [intOf]; omega
            · have hz2 : (x.bas == 0) = false := by simpa using hz
              have HTK : Hid (tkn (n.ro s) = true) := by unfold Hid; rw [HXE.out, HTS.out, decide_eq_false hz]; rfl
              have hlk := look0 HMH.out (x := (s : Int)) (wi_of (by omega) (by omega))
              clear hz HTS HMH
              by_cases hin : (s : Int) ∈ lj.map (·.2)
              · rw [mh1_yes hin] at hlk
                have hen := enters_any n htn p a1 a2 a3 ll.length lj.length k1 k2 k3 li s hs8 HTK.out wr HLN.out.2.2 (HM.out.2.2.later HBX.out) (by rw [HEN.out.1, HEN.out.2.2.2]; exact uni_of HST.out) (fun j hj => by
                  obtain ⟨pr, hpr, hp2⟩ := List.mem_map.1 hin
                  have hk := HTK.out
                  rw [HEN.out.1] at hk
                  rw [HEN.out.2.2.2]
                  cases hb : (plR t L).testBit (pn s j) with
                  | true => exact .inr (has_child hs8 hj hk hb)
                  | false => exact .inl (has_join (by rw [← HEN.out.2.2.1]; exact hpr) hp2 hj hb))
                rw [HC.out] at hen
                have hTn := HTT.out.later HBX.out
                obtain ⟨r0, r1, r2, r3⟩ := (HTR.out.later HBX.out).cells
                clear hin
                go_wp2_with (refine rdT hTn HC.out _ rfl rfl rfl ?_)
                refine hen.mono ?_
                rintro r w7 ⟨rfl, hb7⟩
                have HB7 : Hid (Below w6.heap.size w6 w7) := HBY.out.trans (hb7.mono HBY.out.size)
                clear hen hb7 hTn r0 r1 r2 r3
                go_wp2_with fail
                go_roundw
                case rel => exact ⟨s + 1, by omega, by go_num, HB7.out⟩
                case measure => simp [intOf]; omega
              · rw [mh1_no hin] at hlk
                have HTX : Hid (t.ro s = x) := by
                  unfold Hid
                  have hk := HTK.out
                  rw [HEN.out.1] at hk
                  rcases HST.out.stayed hs8 hk with ⟨h1, _⟩ | ⟨pr, hpr, h2⟩
                  · rw [← h1, ← HEN.out.1]; exact HXE.out
                  · exact absurd (List.mem_map.2 ⟨pr, by rw [HEN.out.2.2.1]; exact hpr, h2⟩) hin
                have hfo := fun X (hX : Below wr.heap.size wr X) => follows_any t n htn p a1 a2 a3 lj.length k1 k2 k3 ll li s hs8 HTK.out X HLN.out.2.2 HLN.out.1 (HM.out.1.later (HBX.out.trans (hX.mono HBX.out.size))) (HM.out.2.2.later (HBX.out.trans (hX.mono HBX.out.size))) (by rw [HEN.out.1, HEN.out.2.2.2]; exact uni_of HST.out) (fun j hj => by
                  have hk := HTK.out
                  rw [HEN.out.1] at hk
                  rw [HEN.out.1, HEN.out.2.2.2, HEN.out.2.1]
                  exact fj_of HST.out hs8 hj hk)
                rw [HC.out, HT.out] at hfo
                have HBT : Hid (TrAt wr B t) := HX3.out.tr.later HBX.out
                have HBN : Hid (TrAt wr N n) := HTT.out.later HBX.out
                have HBR : Hid (RkAt wr (N + 1) #[.int .i64 p, .slice a1 ll.length k1, .slice a2 lj.length k2, .slice a3 li.length k3]) := HTR.out.later HBX.out
                clear hin
                go_upto_region 19 with (fail)
                clear hlk e0 e1 e2
                have hS0 : Below wr.heap.size wr wr.drew := drew_below _
                refine wp_region_held_drew (S := fun X => Below wr.heap.size wr X) (by kernel_rfl) hS0 (fun hHeld => ?_)
                refine wpAnyH_take (i := 0) (oi := { dst := some 63, op := Op.move (Operand.tmp 11), type := _, pos := _, after := _, guard := none }) (v := .int .i64 (s : Int)) rfl (by kernel_rfl) (by kernel_rfl) (by kernel_rfl) (fun _ _ _ h => h) (Or.inl ⟨by rfl, fun w hSw => by (try dsimp only at hSw); go_simp⟩) (by assumption) ?_
                simp only [Act.put, List.setIfInBounds_toArray, List.set_cons_zero, List.set_cons_succ]
                refine wpAnyH_take (i := 1) (oi := { dst := some 64, op := Op.fieldAddr 31 (Operand.tmp 5) 3, type := _, pos := _, after := _, guard := none }) (v := .pointer (some ⟨N, 44, none⟩)) rfl (by kernel_rfl) (by kernel_rfl) (by kernel_rfl) (fun _ _ _ h => h) (Or.inl ⟨by rfl, fun w hSw => by (try dsimp only at hSw); go_simp⟩) (by assumption) ?_
                simp only [Act.put, List.setIfInBounds_toArray, List.set_cons_zero, List.set_cons_succ]
                refine wpAnyH_take (i := 2) (oi := { dst := some 65, op := Op.indexAddr 29 (Operand.tmp 64) (Operand.tmp 63), type := _, pos := _, after := _, guard := none }) (v := .pointer (some ⟨N, 44 + s * 3, none⟩)) rfl (by kernel_rfl) (by kernel_rfl) (by kernel_rfl) (fun _ _ _ h => h) (Or.inl ⟨by rfl, fun w hSw => by (try dsimp only at hSw); go_simp⟩) (by assumption) ?_
                simp only [Act.put, List.setIfInBounds_toArray, List.set_cons_zero, List.set_cons_succ]
                refine wpAnyH_take (i := 3) (oi := { dst := some 66, op := Op.load 27 (Operand.tmp 65), type := _, pos := _, after := _, guard := none }) (v := .agg #[.int .i64 x.who, .int .i64 x.bas, .int .i64 x.snc]) rfl (by kernel_rfl) (by kernel_rfl) (by kernel_rfl) (fun _ _ _ h => h) (Or.inl ⟨by rfl, fun w hSw => by obtain ⟨y0, y1, y2⟩ := (HBN.out.later hSw).ent s hs8; rw [HXE.out] at y0 y1 y2; clear hSw; go_simp⟩) (by assumption) ?_
                simp only [Act.put, List.setIfInBounds_toArray, List.set_cons_zero, List.set_cons_succ]
                refine wpAnyH_take (i := 4) (oi := { dst := some 67, op := Op.move (Operand.tmp 11), type := _, pos := _, after := _, guard := none }) (v := .int .i64 (s : Int)) rfl (by kernel_rfl) (by kernel_rfl) (by kernel_rfl) (fun _ _ _ h => h) (Or.inl ⟨by rfl, fun w hSw => by (try dsimp only at hSw); go_simp⟩) (by assumption) ?_
                simp only [Act.put, List.setIfInBounds_toArray, List.set_cons_zero, List.set_cons_succ]
                refine wpAnyH_take (i := 5) (oi := { dst := some 68, op := Op.fieldAddr 31 (Operand.tmp 2) 3, type := _, pos := _, after := _, guard := none }) (v := .pointer (some ⟨B, 44, none⟩)) rfl (by kernel_rfl) (by kernel_rfl) (by kernel_rfl) (fun _ _ _ h => h) (Or.inl ⟨by rfl, fun w hSw => by (try dsimp only at hSw); go_simp⟩) (by assumption) ?_
                simp only [Act.put, List.setIfInBounds_toArray, List.set_cons_zero, List.set_cons_succ]
                refine wpAnyH_take (i := 6) (oi := { dst := some 69, op := Op.indexAddr 29 (Operand.tmp 68) (Operand.tmp 67), type := _, pos := _, after := _, guard := none }) (v := .pointer (some ⟨B, 44 + s * 3, none⟩)) rfl (by kernel_rfl) (by kernel_rfl) (by kernel_rfl) (fun _ _ _ h => h) (Or.inl ⟨by rfl, fun w hSw => by (try dsimp only at hSw); go_simp⟩) (by assumption) ?_
                simp only [Act.put, List.setIfInBounds_toArray, List.set_cons_zero, List.set_cons_succ]
                refine wpAnyH_take (i := 7) (oi := { dst := some 70, op := Op.load 27 (Operand.tmp 69), type := _, pos := _, after := _, guard := none }) (v := .agg #[.int .i64 x.who, .int .i64 x.bas, .int .i64 x.snc]) rfl (by kernel_rfl) (by kernel_rfl) (by kernel_rfl) (fun _ _ _ h => h) (Or.inl ⟨by rfl, fun w hSw => by obtain ⟨y0, y1, y2⟩ := (HBT.out.later hSw).ent s hs8; rw [HTX.out] at y0 y1 y2; clear hSw; go_simp⟩) (by assumption) ?_
                simp only [Act.put, List.setIfInBounds_toArray, List.set_cons_zero, List.set_cons_succ]
                refine wpAnyH_take (i := 8) (oi := { dst := some 71, op := Op.binOp BinOp.neq 27 (Operand.tmp 66) (Operand.tmp 70) 27, type := _, pos := _, after := _, guard := none }) (v := .bool false) rfl (by kernel_rfl) (by kernel_rfl) (by kernel_rfl) (fun _ _ _ h => h) (Or.inl ⟨by rfl, fun w hSw => by (try dsimp only at hSw); go_simp⟩) (by assumption) ?_
                simp only [Act.put, List.setIfInBounds_toArray, List.set_cons_zero, List.set_cons_succ]
                refine wpAnyH_take (i := 9) (oi := { dst := some 72, op := Op.move (Operand.tmp 71), type := _, pos := _, after := _, guard := none }) (v := .bool false) rfl (by kernel_rfl) (by kernel_rfl) (by kernel_rfl) (fun _ _ _ h => h) (Or.inl ⟨by rfl, fun w hSw => by (try dsimp only at hSw); go_simp⟩) (by assumption) ?_
                simp only [Act.put, List.setIfInBounds_toArray, List.set_cons_zero, List.set_cons_succ]
                refine wpAnyH_take (i := 10) (oi := { dst := some 73, op := Op.load 31 (Operand.tmp 2), type := _, pos := _, after := _, guard := some (9, false) }) (v := .agg ct) rfl (by kernel_rfl) (by kernel_rfl) (by kernel_rfl) (fun _ _ _ h => h) (Or.inl ⟨by rfl, fun w hSw => ld_exec (HT.out ▸ (HBT.out.later hSw).whole) rfl rfl⟩) (by assumption) ?_
                simp only [Act.put, List.setIfInBounds_toArray, List.set_cons_zero, List.set_cons_succ]
                refine wpAnyH_take (i := 11) (oi := { dst := some 74, op := Op.load 31 (Operand.tmp 5), type := _, pos := _, after := _, guard := some (9, false) }) (v := .agg cn) rfl (by kernel_rfl) (by kernel_rfl) (by kernel_rfl) (fun _ _ _ h => h) (Or.inl ⟨by rfl, fun w hSw => ld_exec (HC.out ▸ (HBN.out.later hSw).whole) rfl rfl⟩) (by assumption) ?_
                simp only [Act.put, List.setIfInBounds_toArray, List.set_cons_zero, List.set_cons_succ]
                refine wpAnyH_take (i := 12) (oi := { dst := some 75, op := Op.load 39 (Operand.tmp 6), type := _, pos := _, after := _, guard := some (9, false) }) (v := .agg #[.int .i64 p, .slice a1 ll.length k1, .slice a2 lj.length k2, .slice a3 li.length k3]) rfl (by kernel_rfl) (by kernel_rfl) (by kernel_rfl) (fun _ _ _ h => h) (Or.inl ⟨by rfl, fun w hSw => ld_exec ((HBR.out.later hSw).whole rfl) rfl rfl⟩) (by assumption) ?_
                simp only [Act.put, List.setIfInBounds_toArray, List.set_cons_zero, List.set_cons_succ]
                refine wpAnyH_take (i := 13) (oi := { dst := some 76, op := Op.move (Operand.tmp 11), type := _, pos := _, after := _, guard := some (9, false) }) (v := .int .i64 (s : Int)) rfl (by kernel_rfl) (by kernel_rfl) (by kernel_rfl) (fun _ _ _ h => h) (Or.inl ⟨by rfl, fun w hSw => by (try dsimp only at hSw); go_simp⟩) (by assumption) ?_
                simp only [Act.put, List.setIfInBounds_toArray, List.set_cons_zero, List.set_cons_succ]
                refine wpAnyH_ready (rs := [14]) (by kernel_rfl) (by simp) ?_
                refine AllReadyH.cons rfl (fun K hK => ?_) AllReadyH.nil
                go_simp
                refine (hfo _ hHeld).mono ?_
                rintro r w7 ⟨rfl, hb7⟩
                go_wp2_with fail
                refine hK.out _ _ (hHeld.trans (hb7.mono hHeld.size)) (fun hHeld2 => ?_)
                clear hHeld hb7
                clear hK K
                try simp only [Act.put, List.setIfInBounds_toArray, List.set_cons_zero, List.set_cons_succ]
                refine wpAnyH_take (i := 15) (oi := { dst := some 78, op := Op.unOp UnOp.not 4 (Operand.tmp 77), type := _, pos := _, after := _, guard := some (9, false) }) (v := .bool false) rfl (by kernel_rfl) (by kernel_rfl) (by kernel_rfl) (fun _ _ _ h => h) (Or.inl ⟨by rfl, fun w hSw => by (try dsimp only at hSw); go_simp⟩) (by assumption) ?_
                simp only [Act.put, List.setIfInBounds_toArray, List.set_cons_zero, List.set_cons_succ]
                refine wpAnyH_take (i := 16) (oi := { dst := some 79, op := Op.pick (Operand.tmp 72) (Operand.const (Value.bool true)) (Operand.tmp 78), type := _, pos := _, after := _, guard := none }) (v := .bool false) rfl (by kernel_rfl) (by kernel_rfl) (by kernel_rfl) (fun _ _ _ h => h) (Or.inl ⟨by rfl, fun w hSw => by (try dsimp only at hSw); go_simp⟩) (by assumption) ?_
                simp only [Act.put, List.setIfInBounds_toArray, List.set_cons_zero, List.set_cons_succ]
                refine wpAnyH_done (by kernel_rfl) ?_ _
                have HB7 : Hid (Below w6.heap.size w6 w7) := HBY.out.trans (hHeld2.mono HBY.out.size)
                clear hHeld2 hfo hS0
                go_wp2_with fail
                go_roundw
                case rel => exact ⟨s + 1, by omega, by go_num, HB7.out⟩
                case measure => simp [intOf]; omega
          · obtain rfl : s = 64 := by omega
            rw [show ((64 : Nat) : Int) = 64 from rfl]
            go_wp2_with fail
            go_ret
            exact ⟨rfl, HX3.out.bel.trans (HBX.out.mono HX3.out.bel.size)⟩
  · have hd2 : (e != 0) = true := by simpa using he0
    have HB : Hid (Below w.heap.size w W) := hX3.bel
    obtain ⟨en, ei⟩ := HNO.out he0
    obtain ⟨r0, r1, r2, r3⟩ := tR.cells
    subst ei
    have hcz : tcs (tz 0) = cn := by rw [← en]; exact HC.out
    clear he0 hX3 tR HOK
    go_wp2_with (first | (refine rdT tT HC.out _ rfl rfl rfl ?_) | (refine bzc hcz rfl rfl ?_) | (refine eqTr HC.out HC.out (eqT_refl n) _ _ rfl rfl rfl rfl ?_))
    go_ret
    exact ⟨rfl, HB.out⟩
theorem own : ownKnob Tryd.prog.godebug = none := by kernel_rfl
theorem laidOut : laidOutB Tryd.prog = true := by kernel_rfl
set_option maxRecDepth 20000 in
theorem contract (H : Type) (enc : TypeId × Value → H) (W : World) (base : Nat) (args : Array Value) (ds gs : List (DataW H)) (before : List MemPlace)
    (hval : ∀ (j : Nat) t v, Tryd.f6.params[j]? = some t → args[j]? = some v → Value.okWide Tryd.prog W .any base t v)
    (hW : DataW.Whole enc Tryd.prog Tryd.f6.params.toList Rows.planHeardSpec.vars false W args.toList ds gs before)
    (hsz : (DataW.weightsEach Tryd.prog (Tryd.f6.params.toList ++ Rows.planHeardSpec.plain.varTypes Tryd.prog) (ds ++ gs)).all (· ≤ reachBytes) = true)
    (hL : laidMetH Tryd.prog Rows.planHeardRow.laid W) :
    Calls Tryd.prog 6 args W fun e W' => ∃ v, e = .returned v ∧ Rows.planHeardSpec.post enc Tryd.prog Tryd.f6 false true false false W args v W' := by
  have hv := vs_of hL
  have hW' := hW
  obtain ⟨p, q, hA0, hV, rfl, hfz, hnd⟩ := hW
  have hA : DataW.TrodAll enc Tryd.prog W 0 (fun _ => true) true Tryd.f6.params.toList args.toList ds p := hA0
  rw [Tryd.params6] at hA hval hsz
  obtain ⟨v0, vs0, d0, ds0, p0, q0, hargs, rfl, rfl, h0, r0⟩ := trodAll_cons hA
  obtain ⟨v1, vs1, d1, ds1, p1, q1, rfl, rfl, rfl, h1, r1⟩ := trodAll_cons r0
  obtain ⟨rfl, rfl, rfl⟩ := trodAll_nil r1
  obtain rfl : args = #[v0, v1] := by cases args; simp_all
  obtain ⟨rfl, rfl⟩ := trodVars_none hV
  have k0 := h0
  have lt0 : ∀ x ∈ p0, x.block < W.heap.size := by obtain ⟨m, hm⟩ := k0; exact DataW.trod_lt m _ _ _ hm
  obtain ⟨f0, rfl⟩ := open_tr (hval 0 31 v0 rfl rfl) h0
  have k1 := h1
  have lt1 : ∀ x ∈ p1, x.block < W.heap.size := by obtain ⟨m, hm⟩ := k1; exact DataW.trod_lt m _ _ _ hm
  obtain ⟨aL1, aJ1, cL1, cJ1, L1, J1, rfl, rL1, rJ1, lL1, lJ1⟩ := open_bt (fun parts e => sized_agg hsz (j := 1) (t := 34) rfl (by rw [← e]; rfl) Tryd.underlying34) (hval 1 34 v1 rfl rfl) h1
  clear hA0
  refine (walk f0 aL1 aJ1 cL1 cJ1 L1 J1 W rL1 rJ1 lL1 lJ1 hv).mono fun e W' ⟨he, bel⟩ => ?_
  subst he
  exact ⟨_, rfl, _, _, _, [], _, [], hW', trodAll_mk1 (shut_bool Tryd.underlying4 _), (trodAll_cons_mk (Below.trod laidOut (by kernel_rfl) (of_decide_eq_true (by kernel_rfl)) k0 bel lt0) (trodAll_cons_mk (Below.trod laidOut (by kernel_rfl) (of_decide_eq_true (by kernel_rfl)) k1 bel lt1) trodAll_mk0)), rfl, bel.frame _, fun h => by cases h⟩
set_option maxRecDepth 100000 in
theorem laid_met (os : Os) : laidMet Tryd.prog Rows.planHeardRow.laid ((laidWorld os).forCall (fun _ _ => 0) ⟨#[], #[.agg (tcs (tz 0)), .agg #[.slice none 0 0, .slice none 0 0]], []⟩).memory :=
  laidMet_of_run' 8 (by kernel_rfl) (by kernel_rfl)
set_option maxRecDepth 100000 in
theorem reads (os : Os) {H : Type} (enc : TypeId × Value → H) : ∃ places, DataW.whole enc Tryd.prog ((laidWorld os).forCall (fun _ _ => 0) ⟨#[], #[.agg (tcs (tz 0)), .agg #[.slice none 0 0, .slice none 0 0]], []⟩).memory Tryd.f6.params.toList Rows.planHeardSpec.vars false (#[.agg (tcs (tz 0)), .agg #[.slice none 0 0, .slice none 0 0]] : Array Value).toList 8 = some ([trD, .agg [.nil, .nil]], [], places) :=
  ⟨[], by kernel_rfl⟩
set_option maxRecDepth 100000 in
theorem lifted (os : Os) (started : os.Started) (H : Type) (enc : TypeId × Value → H) (F : Stop.Interp) :
    ReturnsInHanded {} Tryd.checked os 6 .any ((OpenSpec.ofChange Rows.planHeardSpec).preRow enc Tryd.prog Tryd.f6 Rows.planHeardRow.domain false Rows.planHeardRow.laid) (((OpenSpec.ofChange Rows.planHeardSpec).at F).post enc Tryd.prog Tryd.f6 false true false false) := by
  obtain ⟨places, hx⟩ := reads os enc
  refine returnsInHanded_of_row (C := Tryd.checked) (s := (OpenSpec.ofChange Rows.planHeardSpec)) own started (by kernel_rfl) Tryd.func6
    (witness_row_at (enc := enc) (C := Tryd.checked) false (laidWorld os) #[.agg (tcs (tz 0)), .agg #[.slice none 0 0, .slice none 0 0]] rfl (by kernel_rfl) (by kernel_rfl) (by kernel_rfl)
      (OpenSpec.preRow_of_cond 8 hx (by kernel_rfl) (fun k hk => by cases hk) (by kernel_rfl) (laid_met os))) ?_
  intro W base args ds gs before hval hW hc1 hc2 hsz hL hsh _
  exact contract H enc W base args ds gs before hval hW hsz hL
theorem said : Rows.PlanHeardSaid :=
  OpenClaim.holds_of_cond 6 Tryd.f6 rfl rfl rfl rfl rfl rfl rfl ⟨rfl, rfl, rfl, rfl, rfl⟩ rfl rfl rfl rfl rfl (by kernel_rfl) Tryd.func6 (by kernel_rfl)
    (of_decide_eq_true (by kernel_rfl)) (by unfold Func.isWrapper; first | (rw [if_pos (by decide +kernel)]; kernel_rfl) | (rw [if_neg (by decide +kernel)]; exact ⟨rfl, rfl⟩))
    (fun os started H enc _ F => by rw [OpenClaim.pre_eq_preRow]; exact lifted os started H enc F)
theorem plain (f : FuncId) (fn : Func) (hf : Tryd.pinned.checked.prog.funcNamed "coterie/coterielaw12.PlanHeard" = some f) (hfn : Tryd.pinned.checked.prog.funcs[f]? = some fn) :
    false = Tryd.pinned.checked.prog.looks [] ∧ ∀ (j : Nat) t, fn.params[j]? = some t → Tryd.pinned.checked.prog.wantsStandIn t = false := by
  obtain rfl : f = 6 := Option.some.inj ((show Tryd.prog.funcNamed "coterie/coterielaw12.PlanHeard" = some 6 by kernel_rfl).symm.trans hf) |>.symm
  obtain rfl : fn = Tryd.f6 := (Option.some.inj (Tryd.func6.symm.trans hfn)).symm
  refine ⟨by kernel_rfl, fun j t ht => ?_⟩
  rw [Tryd.params6] at ht
  have h31 : Tryd.prog.wantsStandIn 31 = false := by kernel_rfl
  have h34 : Tryd.prog.wantsStandIn 34 = false := by kernel_rfl
  have hm := Array.mem_of_getElem? ht
  simp at hm
  rcases hm with rfl | rfl
  · exact h31
  · exact h34
end Go.Proofs.YtedbnamekfgmhaaDoor.planHeard
namespace Go.Proofs.YtedbnamekfgmhaaDoor
theorem planHeard_holds : Rows.PlanHeardCardSaid :=
  Claim7.holds_tied_plain_at .later [] _ _ _ _ planHeard.said (fun _ h => by cases h) (by kernel_rfl) (fun _ h => by cases h) planHeard_row_tie rfl ⟨rfl, rfl⟩ (by kernel_rfl) rfl planHeard.plain (by kernel_rfl)
#print axioms planHeard_holds
end Go.Proofs.YtedbnamekfgmhaaDoor
