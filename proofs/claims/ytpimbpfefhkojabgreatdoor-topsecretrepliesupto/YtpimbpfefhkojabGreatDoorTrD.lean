/- Contracts: the document's Check. -/
import Derived.Test.YtpimbpfefhkojabGreatDoorTrJ3
import Derived.Test.YtpimbpfefhkojabGreatDoorRtK
namespace Go.Proofs.YtpimbpfefhkojabGreatDoor
open Go.RowKit
open Rt (Ky zK kcs KsAt KyAt kchk kchkE)
open Rs (En zE rcs RoAt EnAt chk chkE)
set_option linter.unusedVariables false
set_option linter.unusedSimpArgs false

set_option maxRecDepth 100000 in
set_option maxHeartbeats 2000000 in
theorem rCheck_any (t : Tr) (w : World) : Calls Tryz.prog 19 #[.agg (tcs t)] w fun r w' => r = .returned (.int .i64 (tckE t)) ∧ Below w.heap.size w w' := by
  have hn := TrAt.new w t
  have hB1 := alloc_tr w t
  have h1 := Rt.rCheck_any t.ks
  have h2 := Rs.rCheck_any t.ro
  obtain ⟨ck, hck⟩ : ∃ c, kcs t.ks = c := ⟨_, rfl⟩
  obtain ⟨cr, hcr⟩ : ∃ c, rcs t.ro = c := ⟨_, rfl⟩
  obtain ⟨ct, hct⟩ : ∃ c, tcs t = c := ⟨_, rfl⟩
  simp only [hck] at h1
  simp only [hcr] at h2
  have HK : Hid (kcs t.ks = ck) := hck
  have HR : Hid (rcs t.ro = cr) := hcr
  have HT : Hid (tcs t = ct) := hct
  clear hck hcr hct
  go_enter Tryz.func19, Tryz.ntmps19
  go_upto_region 1 with (fail)
  generalize w.alloc (.cells (tcs t) 47) = w1 at *
  rw [HT.out]
  obtain ⟨B, hBB⟩ : ∃ B, w.heap.size = B := ⟨_, rfl⟩
  rw [hBB] at hn ⊢
  have HBB : Hid (w.heap.size = B) := hBB
  clear hBB
  obtain ⟨c0, c1⟩ := hn.cells
  have HB1 : Hid (Below w.heap.size w w1) := hB1
  cases q1 : decide (t.ep < 0) with
  | true =>
    have HBN : Hid (bnd t = false) := bnd_1 (by have := of_decide_eq_true q1; omega)
    generalize t.ep = ep at *
    generalize t.fr = fr at *
    go_wp2_with fail
    go_ret
    exact ⟨ret_int (by rw [tckE_ff (tck_b HBN.out)]), HB1.out⟩
  | false =>
    cases q2 : decide (200 < t.ep) with
    | true =>
      have HBN : Hid (bnd t = false) := bnd_2 (by have := of_decide_eq_true q2; omega)
      generalize t.ep = ep at *
      generalize t.fr = fr at *
      go_wp2_with fail
      go_ret
      exact ⟨ret_int (by rw [tckE_ff (tck_b HBN.out)]), HB1.out⟩
    | false =>
      cases q3 : decide (t.fr < 22) with
      | true =>
        have HBN : Hid (bnd t = false) := bnd_3 (by have := of_decide_eq_true q3; omega)
        generalize t.ep = ep at *
        generalize t.fr = fr at *
        go_wp2_with fail
        go_ret
        exact ⟨ret_int (by rw [tckE_ff (tck_b HBN.out)]), HB1.out⟩
      | false =>
        cases q4 : decide (32768 < t.fr) with
        | true =>
          have HBN : Hid (bnd t = false) := bnd_4 (by have := of_decide_eq_true q4; omega)
          generalize t.ep = ep at *
          generalize t.fr = fr at *
          go_wp2_with fail
          go_ret
          exact ⟨ret_int (by rw [tckE_ff (tck_b HBN.out)]), HB1.out⟩
        | false =>
          have HBN : Hid (bnd t = true) := bnd_ok (by have := of_decide_eq_false q1; omega) (by have := of_decide_eq_false q2; omega) (by have := of_decide_eq_false q3; omega) (by have := of_decide_eq_false q4; omega)
          go_wp2_with (refine rdK hn HK.out _ rfl rfl rfl ?_)
          clear q1 q2 q3 q4 c0 c1
          refine (h1 _).mono ?_
          rintro r w2 ⟨rfl, hb2⟩
          have hn2 := hn.later hb2
          have hB2 := hB1.trans (hb2.mono hB1.size)
          clear h1 hn hB1 hb2 HB1
          cases hk : kchk t.ks with
          | false =>
            rw [Rt.kchkE_ff hk]
            go_wp2_with fail
            go_ret
            exact ⟨ret_int (by rw [tckE_ff (tck_k hk)]), hB2⟩
          | true =>
            rw [Rt.kchkE_tt hk]
            go_wp2_with (refine rdR hn2 HR.out _ rfl rfl rfl ?_)
            refine (h2 _).mono ?_
            rintro r w3 ⟨rfl, hb3⟩
            have hn3 := hn2.later hb3
            have hB3 := hB2.trans (hb3.mono hB2.size)
            clear h2 hn2 hB2 hb3
            cases hr : chk t.ro with
            | false =>
              rw [chkE_ff hr]
              go_wp2_with fail
              go_ret
              exact ⟨ret_int (by rw [tckE_ff (tck_r hr)]), hB3⟩
            | true =>
              rw [chkE_tt hr]
              go_wp2_with fail
              go_loopw [3] (fun i wx => ∃ k : Nat, k ≤ 21 ∧ i = .int .i64 (k : Int) ∧ Below w3.heap.size w3 wx ∧ ∀ j, j < k → fk1 t j = true) (fun i _ => 21 - (intOf i).toNat)
              case atStart => exact ⟨0, by omega, rfl, Below.refl _ _, fun j hj => by omega⟩
              case round =>
                obtain ⟨k, hk8', rfl, hb, hf⟩ := hrel
                have HBW : Hid (Below w3.heap.size w3 wr) := hb
                have HB : Hid (Below w.heap.size w wr) := hB3.trans (hb.mono hB3.size)
                have HF : Hid (∀ j, j < k → fk1 t j = true) := hf
                have hT := hn3.later hb
                clear hb hf
                by_cases hk8 : k < 21
                · have k8 : (k : Int) < 21 := by omega
                  have k0 : (0 : Int) ≤ (k : Int) := by omega
                  obtain ⟨c0, c1⟩ := hT.cells
                  obtain ⟨d0, d1⟩ := hT.key k hk8
                  obtain ⟨e, he⟩ : ∃ e, t.ks k = e := ⟨_, rfl⟩
                  rw [he] at d0 d1
                  have HE : Hid (t.ks k = e) := he
                  clear he hT
                  cases g1 : decide (t.fr ≤ e.bas) with
                  | true =>
                    have HG : Hid (t.fr ≤ e.bas) := id (α := t.fr ≤ e.bas) (of_decide_eq_true g1)
                    go_upto_region 6 with (fail)
                    go_quiet (fail)
                    go_wp2_with fail
                    go_ret
                    exact ⟨ret_int (by rw [tckE_ff (tck_fk (by unfold fitK; rw [all_no hk8 (fk1_no1 HE.out HG.out)]))]), HB.out.trans ((dn_below _ _).mono HB.out.size)⟩
                  | false =>
                    have HG : Hid (¬ t.fr ≤ e.bas) := id (α := ¬ t.fr ≤ e.bas) (of_decide_eq_false g1)
                    cases g2 : decide (t.ep < e.stp) with
                    | true =>
                      have HG2 : Hid (t.ep < e.stp) := id (α := t.ep < e.stp) (of_decide_eq_true g2)
                      go_upto_region 6 with (fail)
                      go_quiet (fail)
                      go_wp2_with fail
                      go_ret
                      exact ⟨ret_int (by rw [tckE_ff (tck_fk (by unfold fitK; rw [all_no hk8 (fk1_no2 HE.out HG2.out)]))]), HB.out.trans ((dn_below _ _).mono HB.out.size)⟩
                    | false =>
                      have HG2 : Hid (¬ t.ep < e.stp) := id (α := ¬ t.ep < e.stp) (of_decide_eq_false g2)
                      go_upto_region 6 with (fail)
                      go_quiet (fail)
                      go_wp2_with fail
                      go_roundw
                      case rel =>
                        refine ⟨k + 1, by omega, by go_num, HBW.out.trans ((dn_below _ _).mono HBW.out.size), fun j hj => ?_⟩
                        rcases Nat.lt_or_ge j k with h | h
                        · exact HF.out j h
                        · obtain rfl : j = k := by omega
                          exact fk1_yes HE.out (by have := HG.out; omega) (by have := HG2.out; omega)
                      case measure => simp [intOf]; omega
                · obtain rfl : k = 21 := by omega
                  have HFK : Hid (fitK t = true) := by unfold fitK; exact all_yes HF.out
                  go_wp2_with fail
                  rw [show ((21 : Nat) : Int) = 21 from rfl]
                  obtain ⟨w4, hw4⟩ : ∃ w4, wr = w4 := ⟨_, rfl⟩
                  rw [hw4] at hT HB ⊢
                  clear hw4 HBW HF
                  go_loopw [4] (fun i wx => ∃ k : Nat, k ≤ 64 ∧ i = .int .i64 (k : Int) ∧ Below w4.heap.size w4 wx ∧ ∀ j, j < k → fs1 t j = true) (fun i _ => 64 - (intOf i).toNat)
                  case atStart => exact ⟨0, by omega, rfl, Below.refl _ _, fun j hj => by omega⟩
                  case round =>
                    obtain ⟨s, hs8', rfl, hb, hf⟩ := hrel
                    have HBW : Hid (Below w4.heap.size w4 wr) := hb
                    have HB2 : Hid (Below w.heap.size w wr) := HB.out.trans (hb.mono HB.out.size)
                    have HF : Hid (∀ j, j < s → fs1 t j = true) := hf
                    have hT2 := hT.later hb
                    clear hb hf
                    by_cases hs8 : s < 64
                    · have s8 : (s : Int) < 64 := by omega
                      have s0 : (0 : Int) ≤ (s : Int) := by omega
                      obtain ⟨c0, c1⟩ := hT2.cells
                      obtain ⟨d0, d1, d2⟩ := hT2.ent s hs8
                      obtain ⟨e, he⟩ : ∃ e, t.ro s = e := ⟨_, rfl⟩
                      rw [he] at d0 d1 d2
                      have HE : Hid (t.ro s = e) := he
                      clear he
                      cases g1 : decide (t.fr ≤ e.bas) with
                      | true =>
                        have HG : Hid (t.fr ≤ e.bas) := id (α := t.fr ≤ e.bas) (of_decide_eq_true g1)
                        go_upto_region 11 with (fail)
                        go_quiet (fail)
                        go_wp2_with fail
                        go_ret
                        exact ⟨ret_int (by rw [tckE_ff (tck_fs (by unfold fitS; rw [all_no hs8 (fs1_no1 HE.out HG.out)]))]), HB2.out.trans ((dn_below _ _).mono HB2.out.size)⟩
                      | false =>
                        have HG : Hid (¬ t.fr ≤ e.bas) := id (α := ¬ t.fr ≤ e.bas) (of_decide_eq_false g1)
                        cases g2 : decide (t.ep < e.snc) with
                        | true =>
                          have HG2 : Hid (t.ep < e.snc) := id (α := t.ep < e.snc) (of_decide_eq_true g2)
                          go_upto_region 11 with (fail)
                          go_quiet (fail)
                          go_wp2_with fail
                          go_ret
                          exact ⟨ret_int (by rw [tckE_ff (tck_fs (by unfold fitS; rw [all_no hs8 (fs1_no2 HE.out HG2.out)]))]), HB2.out.trans ((dn_below _ _).mono HB2.out.size)⟩
                        | false =>
                          have HG2 : Hid (¬ t.ep < e.snc) := id (α := ¬ t.ep < e.snc) (of_decide_eq_false g2)
                          go_upto_region 11 with (fail)
                          go_quiet (fail)
                          rename_i nq
                          have HB5 : Hid (Below w.heap.size w (wr.drewN nq)) := HB2.out.trans ((dn_below _ _).mono HB2.out.size)
                          have HBW5 : Hid (Below w4.heap.size w4 (wr.drewN nq)) := HBW.out.trans ((dn_below _ _).mono HBW.out.size)
                          have hT5 := hT2.later (dn_below wr nq)
                          clear c0 c1 d0 d1 d2 hT2 HB2 HBW
                          generalize wr.drewN nq = w5 at *
                          go_wp2_with fail
                          go_loopw [5] (fun i wx => ∃ k : Nat, k ≤ 21 ∧ i = .int .i64 (k : Int) ∧ Below w5.heap.size w5 wx ∧ ∀ j, j < k → decide ((t.ks j).bas = e.bas) = false) (fun i _ => 21 - (intOf i).toNat)
                          case atStart => exact ⟨0, by omega, rfl, Below.refl _ _, fun j hj => by omega⟩
                          case round =>
                            obtain ⟨v, hv8', rfl, hb, hf⟩ := hrel
                            have HBV : Hid (Below w5.heap.size w5 wr) := hb
                            have HFV : Hid (∀ j, j < v → decide ((t.ks j).bas = e.bas) = false) := hf
                            have hT6 := hT5.later hb
                            have HB6 : Hid (Below w.heap.size w wr) := HB5.out.trans (hb.mono HB5.out.size)
                            clear hb hf
                            by_cases hv8 : v < 21
                            · have v8 : (v : Int) < 21 := by omega
                              have v0 : (0 : Int) ≤ (v : Int) := by omega
                              obtain ⟨d0, d1, d2⟩ := hT6.ent s hs8
                              rw [HE.out] at d0 d1 d2
                              obtain ⟨p0, p1⟩ := hT6.key v hv8
                              obtain ⟨x, hx⟩ : ∃ x, (t.ks v).bas = x := ⟨_, rfl⟩
                              rw [hx] at p0
                              have HX : Hid ((t.ks v).bas = x) := hx
                              clear hx hT6 p1
                              by_cases hxe : x = e.bas
                              · have hxe2 : (x == e.bas) = true := by simp [hxe]
                                have HXE : Hid (x = e.bas) := hxe
                                clear hxe
                                go_upto_region 16 with (fail)
                                go_quiet (fail)
                                go_wp2_with fail
                                go_ret
                                exact ⟨ret_int (by rw [tckE_ff (tck_fs (by unfold fitS; rw [all_no hs8 (fs1_no3 HE.out (by unfold isn; rw [any_yes hv8 (by rw [HX.out, HXE.out]; simp)]))]))]), HB6.out.trans ((dn_below _ _).mono HB6.out.size)⟩
                              · have hxe2 : (x == e.bas) = false := by simp [hxe]
                                have HXE : Hid (¬ x = e.bas) := hxe
                                clear hxe
                                go_upto_region 16 with (fail)
                                go_quiet (fail)
                                go_wp2_with fail
                                go_roundw
                                case rel =>
                                  refine ⟨v + 1, by omega, by go_num, HBV.out.trans ((dn_below _ _).mono HBV.out.size), fun j hj => ?_⟩
                                  rcases Nat.lt_or_ge j v with h | h
                                  · exact HFV.out j h
                                  · obtain rfl : j = v := by omega
                                    rw [HX.out]
                                    exact decide_eq_false HXE.out
                                case measure => simp [intOf]; omega
                            · obtain rfl : v = 21 := by omega
                              go_wp2_with fail
                              go_roundw
                              case rel =>
                                refine ⟨s + 1, by omega, by go_num, HBW5.out.trans (HBV.out.mono HBW5.out.size), fun j hj => ?_⟩
                                rcases Nat.lt_or_ge j s with h | h
                                · exact HF.out j h
                                · obtain rfl : j = s := by omega
                                  exact fs1_yes HE.out (by have := HG.out; omega) (by have := HG2.out; omega) (by unfold isn; exact any_no HFV.out)
                              case measure => simp [intOf]; omega
                    · obtain rfl : s = 64 := by omega
                      go_wp2_with fail
                      go_ret
                      exact ⟨ret_int (by rw [tckE_tt (tck_ok HBN.out hk hr HFK.out (by unfold fitS; exact all_yes HF.out))]), HB2.out⟩
end Go.Proofs.YtpimbpfefhkojabGreatDoor
