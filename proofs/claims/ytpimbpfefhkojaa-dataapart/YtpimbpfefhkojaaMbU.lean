/- Contracts: the document's GoodCard, Kind, Seated, Group. -/
import Derived.Test.YtpimbpfefhkojaaMbJ5
import Derived.LoopN
namespace Go.Proofs.Ytpimbpfefhkojaa.Mb
open Go.RowKit Go.Maps
open Rt (Ky zK gd pcs KyAt)
open Wi (gR gE gW gS gI gB gK ldM stM rd_guard ra_of th_of ra_later)
set_option linter.unusedVariables false
set_option linter.unusedSimpArgs false

set_option maxHeartbeats 2000000 in
theorem rGoodCard_any (W S P : Int) (k : Ky) (w : World) : Calls Try.prog 47 #[.agg #[.int .i64 W, .int .i64 S, .int .i64 P, .int .i64 k.bas, .int .i64 k.stp] ] w fun e w' => e = .returned (.bool (gCd W S P k)) ∧ Below w.heap.size w w' := by
  obtain ⟨b, s⟩ := k
  dsimp only
  have h4 := Rt.rGood_any b s
  have hq : gCd W S P ⟨b, s⟩ = (decide (0 ≤ W) && (decide (W < 256) && (decide (0 ≤ S) && (decide (S < 64) && (decide (1 ≤ P) && (decide (P ≤ 200) && gd b s)))))) := by
    unfold gCd Wi.gW Wi.gE gk
    simp only [Bool.and_assoc]
  rw [hq]
  clear hq
  generalize gd b s = g at *
  by_cases c1 : 0 ≤ W
  rotate_left
  · have HE : Hid ((decide (0 ≤ W) && (decide (W < 256) && (decide (0 ≤ S) && (decide (S < 64) && (decide (1 ≤ P) && (decide (P ≤ 200) && g)))))) = false) := by unfold Hid; simp [c1]
    generalize (decide (0 ≤ W) && (decide (W < 256) && (decide (0 ≤ S) && (decide (S < 64) && (decide (1 ≤ P) && (decide (P ≤ 200) && g)))))) = q at *
    go_enter Try.func47, Try.ntmps47
    go_wp2_with fail
    go_ret
    exact ⟨ret_bool HE.out.symm, below_alloc _ _⟩
  by_cases c2 : W < 256
  rotate_left
  · have HE : Hid ((decide (0 ≤ W) && (decide (W < 256) && (decide (0 ≤ S) && (decide (S < 64) && (decide (1 ≤ P) && (decide (P ≤ 200) && g)))))) = false) := by unfold Hid; simp [c2]
    generalize (decide (0 ≤ W) && (decide (W < 256) && (decide (0 ≤ S) && (decide (S < 64) && (decide (1 ≤ P) && (decide (P ≤ 200) && g)))))) = q at *
    go_enter Try.func47, Try.ntmps47
    go_wp2_with fail
    go_ret
    exact ⟨ret_bool HE.out.symm, below_alloc _ _⟩
  by_cases c3 : 0 ≤ S
  rotate_left
  · have HE : Hid ((decide (0 ≤ W) && (decide (W < 256) && (decide (0 ≤ S) && (decide (S < 64) && (decide (1 ≤ P) && (decide (P ≤ 200) && g)))))) = false) := by unfold Hid; simp [c3]
    generalize (decide (0 ≤ W) && (decide (W < 256) && (decide (0 ≤ S) && (decide (S < 64) && (decide (1 ≤ P) && (decide (P ≤ 200) && g)))))) = q at *
    go_enter Try.func47, Try.ntmps47
    go_wp2_with fail
    go_ret
    exact ⟨ret_bool HE.out.symm, below_alloc _ _⟩
  by_cases c4 : S < 64
  rotate_left
  · have HE : Hid ((decide (0 ≤ W) && (decide (W < 256) && (decide (0 ≤ S) && (decide (S < 64) && (decide (1 ≤ P) && (decide (P ≤ 200) && g)))))) = false) := by unfold Hid; simp [c4]
    generalize (decide (0 ≤ W) && (decide (W < 256) && (decide (0 ≤ S) && (decide (S < 64) && (decide (1 ≤ P) && (decide (P ≤ 200) && g)))))) = q at *
    go_enter Try.func47, Try.ntmps47
    go_wp2_with fail
    go_ret
    exact ⟨ret_bool HE.out.symm, below_alloc _ _⟩
  by_cases c5 : 1 ≤ P
  rotate_left
  · have HE : Hid ((decide (0 ≤ W) && (decide (W < 256) && (decide (0 ≤ S) && (decide (S < 64) && (decide (1 ≤ P) && (decide (P ≤ 200) && g)))))) = false) := by unfold Hid; simp [c5]
    generalize (decide (0 ≤ W) && (decide (W < 256) && (decide (0 ≤ S) && (decide (S < 64) && (decide (1 ≤ P) && (decide (P ≤ 200) && g)))))) = q at *
    go_enter Try.func47, Try.ntmps47
    go_wp2_with fail
    go_ret
    exact ⟨ret_bool HE.out.symm, below_alloc _ _⟩
  by_cases c6 : P ≤ 200
  rotate_left
  · have HE : Hid ((decide (0 ≤ W) && (decide (W < 256) && (decide (0 ≤ S) && (decide (S < 64) && (decide (1 ≤ P) && (decide (P ≤ 200) && g)))))) = false) := by unfold Hid; simp [c6]
    generalize (decide (0 ≤ W) && (decide (W < 256) && (decide (0 ≤ S) && (decide (S < 64) && (decide (1 ≤ P) && (decide (P ≤ 200) && g)))))) = q at *
    go_enter Try.func47, Try.ntmps47
    go_wp2_with fail
    go_ret
    exact ⟨ret_bool HE.out.symm, below_alloc _ _⟩
  have HE : Hid ((decide (0 ≤ W) && (decide (W < 256) && (decide (0 ≤ S) && (decide (S < 64) && (decide (1 ≤ P) && (decide (P ≤ 200) && g)))))) = g) := by unfold Hid; simp [c1, c2, c3, c4, c5, c6]
  generalize (decide (0 ≤ W) && (decide (W < 256) && (decide (0 ≤ S) && (decide (S < 64) && (decide (1 ≤ P) && (decide (P ≤ 200) && g)))))) = q at *
  go_enter Try.func47, Try.ntmps47
  go_wp2_with fail
  refine (h4 _).mono ?_
  rintro r w2 ⟨rfl, rfl⟩
  go_wp2_with fail
  go_ret
  exact ⟨ret_bool HE.out.symm, Wi.Below.plus (below_alloc _ _) _⟩
theorem rGood_b (k : Ky) (w : World) : Calls Try.prog 33 #[.agg #[.int .i64 k.bas, .int .i64 k.stp] ] w fun e w' => e = .returned (.bool (gd k.bas k.stp)) ∧ Below w.heap.size w w' :=
  (Rt.rGood_any k.bas k.stp w).mono fun e w' h => ⟨h.1, by rw [h.2]; exact below_alloc _ _⟩
theorem koV_no1 {m : Mb} (h : mE m (outM m.who m.ep) = false) : koV m = -1 := by unfold koV; rw [h]; rfl
theorem koV_no2 {m : Mb} (h : (gW m.who && gE m.ep) = false) : koV m = -1 := by unfold koV; rw [h, Bool.and_false]; rfl
theorem koV_yes {m : Mb} (h : mE m (outM m.who m.ep) = true) (h2 : (gW m.who && gE m.ep) = true) : koV m = 1 := by unfold koV; rw [h, h2]; rfl
theorem outM_eq (w e : Int) : (#[.int .i64 w, .int .i64 0, .int .i64 e, .int .i64 0, .int .i64 0, .int .i64 0, .int .i64 0, .int .i64 0, .int .i64 0, .int .i64 0, .int .i64 0, .bool false, .bool true, .int .i64 0] : Array Value) = mba (outM w e) := rfl
theorem ka0 {W : World} {B : Nat} {m : Mb} (h : MA W B m) : W.cell? ⟨B, 5 + 0 * 2, none⟩ = some (.int .i64 m.p0.bas) ∧ W.cell? ⟨B, 5 + 0 * 2 + 1, none⟩ = some (.int .i64 m.p0.stp) := h.key.1
set_option maxRecDepth 100000 in
set_option maxHeartbeats 4000000 in
theorem rKind_any (m : Mb) (w : World) : Calls Try.prog 26 #[.agg (mba m)] w fun r w' => r = .returned (.int .i64 (knd m)) ∧ Below w.heap.size w w' := by
  have hS := S1.new w m
  have h2 := rGoodCard_any m.who m.slt m.ep m.lf
  have h3 := rGood_b m.p0
  have h4 := rGood_b m.p1
  have h5 := rGood_b m.p2
  obtain ⟨cm, hcm⟩ : ∃ c, mba m = c := ⟨_, rfl⟩
  have HC : Hid (mba m = cm) := hcm
  rw [hcm] at hS
  rw [hcm]
  clear hcm
  go_enter Try.func26, Try.ntmps26
  go_upto_region 1 with (fail)
  generalize w.alloc (.cells cm 27) = w1 at *
  obtain ⟨B, hB⟩ : ∃ B, w.heap.size = B := ⟨_, rfl⟩
  rw [hB] at hS ⊢
  clear hB
  cases c0 : mE m zMb with
  | true =>
    have HQ : Hid (mE m zMb = true) := c0
    clear c0 h2 h3 h4 h5
    go_wp2_with (first | (refine ldMb hS.mb HC.out _ rfl rfl rfl ?_) | (refine eqM HC.out (show mba zMb = _ from rfl) HQ.out _ _ rfl rfl rfl rfl ?_))
    go_ret
    exact ⟨ret_int (knd_0 HQ.out).symm, hS.bel⟩
  | false =>
    have HQ : Hid (mE m zMb = false) := c0
    clear c0
    have co := hS.mb.out
    cases ho : m.out with
    | true =>
      rw [ho] at co
      have HK : Hid (knd m = koV m) := knd_o HQ.out ho
      clear ho h2 h3 h4 h5
      have cw := hS.mb.who
      have ce := hS.mb.ep
      have HOM : Hid (mba (outM m.who m.ep) = #[.int .i64 m.who, .int .i64 0, .int .i64 m.ep, .int .i64 0, .int .i64 0, .int .i64 0, .int .i64 0, .int .i64 0, .int .i64 0, .int .i64 0, .int .i64 0, .bool false, .bool true, .int .i64 0]) := rfl
      obtain ⟨b, hb⟩ : ∃ b, mE m (outM m.who m.ep) = b := ⟨_, rfl⟩
      have HB : Hid (mE m (outM m.who m.ep) = b) := hb
      clear hb
      cases b with
      | false =>
        have HE : Hid (koV m = -1) := koV_no1 HB.out
        go_wp2_with (first | (refine ldMb hS.mb HC.out _ rfl rfl rfl ?_) | (refine eqM HC.out (show mba zMb = _ from rfl) HQ.out _ _ rfl rfl rfl rfl ?_) | (refine eqM HC.out HOM.out HB.out _ _ rfl rfl rfl rfl ?_))
        go_ret
        exact ⟨ret_int (HK.out.trans HE.out).symm, hS.bel⟩
      | true =>
        cases d1 : decide (0 ≤ m.who) with
        | false =>
          have HE : Hid (koV m = -1) := koV_no2 (by unfold Wi.gW; rw [d1]; rfl)
          go_wp2_with (first | (refine ldMb hS.mb HC.out _ rfl rfl rfl ?_) | (refine eqM HC.out (show mba zMb = _ from rfl) HQ.out _ _ rfl rfl rfl rfl ?_) | (refine eqM HC.out HOM.out HB.out _ _ rfl rfl rfl rfl ?_))
          go_ret
          exact ⟨ret_int (HK.out.trans HE.out).symm, hS.bel⟩
        | true =>
          cases d2 : decide (m.who < 256) with
          | false =>
            have HE : Hid (koV m = -1) := koV_no2 (by unfold Wi.gW; rw [d1, d2]; rfl)
            go_wp2_with (first | (refine ldMb hS.mb HC.out _ rfl rfl rfl ?_) | (refine eqM HC.out (show mba zMb = _ from rfl) HQ.out _ _ rfl rfl rfl rfl ?_) | (refine eqM HC.out HOM.out HB.out _ _ rfl rfl rfl rfl ?_))
            go_ret
            exact ⟨ret_int (HK.out.trans HE.out).symm, hS.bel⟩
          | true =>
            cases d3 : decide (1 ≤ m.ep) with
            | false =>
              have HE : Hid (koV m = -1) := koV_no2 (by unfold Wi.gW Wi.gE; rw [d1, d2, d3]; rfl)
              go_wp2_with (first | (refine ldMb hS.mb HC.out _ rfl rfl rfl ?_) | (refine eqM HC.out (show mba zMb = _ from rfl) HQ.out _ _ rfl rfl rfl rfl ?_) | (refine eqM HC.out HOM.out HB.out _ _ rfl rfl rfl rfl ?_))
              go_ret
              exact ⟨ret_int (HK.out.trans HE.out).symm, hS.bel⟩
            | true =>
              cases d4 : decide (m.ep ≤ 200) with
              | false =>
                have HE : Hid (koV m = -1) := koV_no2 (by unfold Wi.gW Wi.gE; rw [d1, d2, d3, d4]; rfl)
                go_wp2_with (first | (refine ldMb hS.mb HC.out _ rfl rfl rfl ?_) | (refine eqM HC.out (show mba zMb = _ from rfl) HQ.out _ _ rfl rfl rfl rfl ?_) | (refine eqM HC.out HOM.out HB.out _ _ rfl rfl rfl rfl ?_))
                go_ret
                exact ⟨ret_int (HK.out.trans HE.out).symm, hS.bel⟩
              | true =>
                have HE : Hid (koV m = 1) := koV_yes HB.out (by unfold Wi.gW Wi.gE; rw [d1, d2, d3, d4]; rfl)
                go_wp2_with (first | (refine ldMb hS.mb HC.out _ rfl rfl rfl ?_) | (refine eqM HC.out (show mba zMb = _ from rfl) HQ.out _ _ rfl rfl rfl rfl ?_) | (refine eqM HC.out HOM.out HB.out _ _ rfl rfl rfl rfl ?_))
                go_ret
                exact ⟨ret_int (HK.out.trans HE.out).symm, hS.bel⟩
    | false =>
      rw [ho] at co
      have HO : Hid (m.out = false) := ho
      clear ho
      obtain ⟨k0, k1⟩ := hS.mb.leaf
      have cw := hS.mb.who
      have cs := hS.mb.slt
      have ce := hS.mb.ep
      obtain ⟨g1, hg1⟩ : ∃ g, gCd m.who m.slt m.ep m.lf = g := ⟨_, rfl⟩
      have HG1 : Hid (gCd m.who m.slt m.ep m.lf = g1) := hg1
      simp only [hg1] at h2
      clear hg1
      go_upto_region 7 with (first | (refine ldMb hS.mb HC.out _ rfl rfl rfl ?_) | (refine eqM HC.out (show mba zMb = _ from rfl) HQ.out _ _ rfl rfl rfl rfl ?_))
      go_wp2_with fail
      refine (h2 _).mono ?_
      rintro r w2 ⟨rfl, hb2⟩
      have hS3 := hS.later hb2
      clear hS hb2 h2 co k0 k1 cw cs ce
      have ce := hS3.mb.ep
      have cb := hS3.mb.bh
      have chs := hS3.mb.has
      cases g1 with
      | false =>
        go_wp2_with fail
        go_ret
        exact ⟨ret_int (knd_c HQ.out HO.out (by rw [HG1.out]; rfl)).symm, hS3.bel⟩
      | true =>
        cases g2 : bhB m with
        | false =>
          have HE : Hid (knd m = -1) := knd_c HQ.out HO.out (by rw [HG1.out, g2]; rfl)
          have hn0 : ¬ m.bh = 0 := fun h => by unfold bhB at g2; rw [h] at g2; simp at g2
          have d0 : (m.bh != 0) = true := by simpa using hn0
          by_cases d1 : m.bh ≤ m.ep
          · have d4 : decide (m.bh ≤ m.ep) = true := decide_eq_true d1
            clear g2 hn0 d1
            go_wp2_with fail
            go_ret
            exact ⟨ret_int HE.out.symm, hS3.bel⟩
          · have d2 : ¬ m.bh ≤ 200 := fun h => by unfold bhB at g2; simp [hn0, h] at g2; omega
            have d3 : decide (200 < m.bh) = true := decide_eq_true (by omega)
            have d4 : decide (m.bh ≤ m.ep) = false := decide_eq_false d1
            clear g2 hn0 d1 d2
            go_wp2_with fail
            go_ret
            exact ⟨ret_int HE.out.symm, hS3.bel⟩
        | true =>
          have HKh := knd_h HQ.out HO.out (by rw [HG1.out, g2]; rfl)
          have g2' := bh_iff.1 g2
          clear g2
          cases hh : m.has with
          | false =>
            rw [hh] at HKh chs
            have HE : Hid (knd m = if pE m.p0 m.p1 m.p2 zK zK zK then 2 else -1) := HKh
            clear hh HKh h3 h4 h5
            obtain ⟨g3, hg3⟩ : ∃ g, pE m.p0 m.p1 m.p2 zK zK zK = g := ⟨_, rfl⟩
            rw [hg3] at HE
            have HP : Hid (pE m.p0 m.p1 m.p2 zK zK zK = g3) := hg3
            clear hg3
            rcases g2' with g0 | ⟨ga, gb⟩
            · have d0 : (m.bh != 0) = false := by simpa using g0
              clear g0
              cases g3
              all_goals
                go_upto_region 10 with (fail)
                go_wp2_with (first | (refine ldPa hS3.mb _ rfl rfl rfl ?_) | (refine ne3 HP.out _ _ rfl rfl rfl rfl ?_))
                go_ret
                exact ⟨ret_int HE.out.symm, hS3.bel⟩
            · have d0 : (m.bh != 0) = true := by simp; intro h; have := (gCd_ep HG1.out).1; omega
              have d3 : decide (200 < m.bh) = false := decide_eq_false (by omega)
              have d4 : decide (m.bh ≤ m.ep) = false := decide_eq_false (by omega)
              clear ga gb
              cases g3
              all_goals
                go_upto_region 10 with (fail)
                go_wp2_with (first | (refine ldPa hS3.mb _ rfl rfl rfl ?_) | (refine ne3 HP.out _ _ rfl rfl rfl rfl ?_))
                go_ret
                exact ⟨ret_int HE.out.symm, hS3.bel⟩
          | true =>
            rw [hh] at HKh chs
            have HE : Hid (knd m = if gp m.p0 m.p1 m.p2 then 3 else -1) := HKh
            clear hh HKh
            unfold gp gk at HE
            generalize gd m.p0.bas m.p0.stp = x0 at *
            generalize gd m.p1.bas m.p1.stp = x1 at *
            generalize gd m.p2.bas m.p2.stp = x2 at *
            rcases g2' with g0 | ⟨ga, gb⟩
            · have d0 : (m.bh != 0) = false := by simpa using g0
              clear g0
              go_wp2_with fail
              refine wp_loop_rounds 4 ?_
              obtain ⟨⟨a0, a1⟩, ⟨a2, a3⟩, a4, a5⟩ := hS3.mb.key
              rw [rounds_succ]; go_wp2_with fail
              refine (h3 _).mono ?_
              rintro r w3 ⟨rfl, hb3⟩
              have hS4 := hS3.later hb3
              clear hb3 a0 a1 a2 a3 a4 a5 h3
              cases x0 with
              | false =>
                go_wp2_with fail
                go_ret
                exact ⟨ret_int HE.out.symm, hS4.bel⟩
              | true =>
                go_wp2_with fail
                obtain ⟨⟨a0, a1⟩, ⟨a2, a3⟩, a4, a5⟩ := hS4.mb.key
                rw [rounds_succ]; go_wp2_with fail
                refine (h4 _).mono ?_
                rintro r w5 ⟨rfl, hb3⟩
                have hS5 := hS4.later hb3
                clear hb3 a0 a1 a2 a3 a4 a5 h4
                cases x1 with
                | false =>
                  go_wp2_with fail
                  go_ret
                  exact ⟨ret_int HE.out.symm, hS5.bel⟩
                | true =>
                  go_wp2_with fail
                  obtain ⟨⟨a0, a1⟩, ⟨a2, a3⟩, a4, a5⟩ := hS5.mb.key
                  rw [rounds_succ]; go_wp2_with fail
                  refine (h5 _).mono ?_
                  rintro r w6 ⟨rfl, hb3⟩
                  have hS6 := hS5.later hb3
                  clear hb3 a0 a1 a2 a3 a4 a5 h5
                  cases x2 with
                  | false =>
                    go_wp2_with fail
                    go_ret
                    exact ⟨ret_int HE.out.symm, hS6.bel⟩
                  | true =>
                    go_wp2_with fail
                    rw [rounds_succ]; go_wp2_with fail
                    go_ret
                    exact ⟨ret_int HE.out.symm, hS6.bel⟩
            · have d0 : (m.bh != 0) = true := by simp; intro h; have := (gCd_ep HG1.out).1; omega
              have d3 : decide (200 < m.bh) = false := decide_eq_false (by omega)
              have d4 : decide (m.bh ≤ m.ep) = false := decide_eq_false (by omega)
              clear ga gb
              go_wp2_with fail
              refine wp_loop_rounds 4 ?_
              obtain ⟨⟨a0, a1⟩, ⟨a2, a3⟩, a4, a5⟩ := hS3.mb.key
              rw [rounds_succ]; go_wp2_with fail
              refine (h3 _).mono ?_
              rintro r w3 ⟨rfl, hb3⟩
              have hS4 := hS3.later hb3
              clear hb3 a0 a1 a2 a3 a4 a5 h3
              cases x0 with
              | false =>
                go_wp2_with fail
                go_ret
                exact ⟨ret_int HE.out.symm, hS4.bel⟩
              | true =>
                go_wp2_with fail
                obtain ⟨⟨a0, a1⟩, ⟨a2, a3⟩, a4, a5⟩ := hS4.mb.key
                rw [rounds_succ]; go_wp2_with fail
                refine (h4 _).mono ?_
                rintro r w5 ⟨rfl, hb3⟩
                have hS5 := hS4.later hb3
                clear hb3 a0 a1 a2 a3 a4 a5 h4
                cases x1 with
                | false =>
                  go_wp2_with fail
                  go_ret
                  exact ⟨ret_int HE.out.symm, hS5.bel⟩
                | true =>
                  go_wp2_with fail
                  obtain ⟨⟨a0, a1⟩, ⟨a2, a3⟩, a4, a5⟩ := hS5.mb.key
                  rw [rounds_succ]; go_wp2_with fail
                  refine (h5 _).mono ?_
                  rintro r w6 ⟨rfl, hb3⟩
                  have hS6 := hS5.later hb3
                  clear hb3 a0 a1 a2 a3 a4 a5 h5
                  cases x2 with
                  | false =>
                    go_wp2_with fail
                    go_ret
                    exact ⟨ret_int HE.out.symm, hS6.bel⟩
                  | true =>
                    go_wp2_with fail
                    rw [rounds_succ]; go_wp2_with fail
                    go_ret
                    exact ⟨ret_int HE.out.symm, hS6.bel⟩
theorem gr_cases (m : Mb) : (knd m = 1 ∧ grE m = 20 ∧ grK m = zK) ∨ (knd m = 2 ∧ grE m = 22 ∧ grK m = zK) ∨ (knd m = 3 ∧ grE m = 0 ∧ grK m = m.p2) ∨ ((knd m = -1 ∨ knd m = 0) ∧ grE m = 30 ∧ grK m = zK) := by
  unfold grE grK
  rcases knd_cases m with h | h | h | h | h <;> rw [h] <;> simp
set_option maxRecDepth 100000 in
set_option maxHeartbeats 1000000 in
theorem rGroup_any (m : Mb) (w : World) : Calls Try.prog 16 #[.agg (mba m)] w fun r w' => r = GrpA m ∧ Below w.heap.size w w' := by
  have hS := SG.new w m
  have h1 := rKind_any m
  obtain ⟨cm, hcm⟩ : ∃ c, mba m = c := ⟨_, rfl⟩
  have HC : Hid (mba m = cm) := hcm
  rw [hcm] at hS
  simp only [hcm] at h1
  rw [hcm]
  clear hcm
  have hk := gr_cases m
  go_enter Try.func16, Try.ntmps16
  go_upto_region 1 with (fail)
  generalize (w.alloc (.cells cm 27)).alloc (.cells #[.int .i64 0, .int .i64 0] 23) = w1 at *
  obtain ⟨K, hK⟩ : ∃ K, w.heap.size + 1 = K := ⟨_, rfl⟩
  obtain ⟨B, hB⟩ : ∃ B, w.heap.size = B := ⟨_, rfl⟩
  rw [hK, hB] at hS ⊢
  clear hK hB
  go_wp2_with (refine ldMb hS.mb HC.out _ rfl rfl rfl ?_)
  refine (h1 _).mono ?_
  rintro r w2 ⟨rfl, hb2⟩
  have hS2 := hS.later hb2
  have hbl : Below w.heap.size w w2 := hS2.bel
  have HBL : Hid (Below w.heap.size w w2) := hbl
  have HGE : Hid (w.heap.size ≤ K) := hS2.ge
  have HK : Hid (KyAt w2 K zK) := hS2.re
  clear hS hb2 h1 hbl
  rcases hk with ⟨e1, e2, e3⟩ | ⟨e1, e2, e3⟩ | ⟨e1, e2, e3⟩ | ⟨e1, e2, e3⟩
  · skip
    rw [e1]
    have HA : Hid _ := grp_no e2 e3
    clear e1 e2 e3 hS2
    go_wp2_with (refine stKy HK.out zK rfl _ _ rfl rfl rfl ?_)
    refine bodyPost_ret (results_ky2 (p := 2) (t := 3) rfl _ _ K zK rfl (KyAt.row HK.out _)) rfl ?_
    exact ⟨HA.out, Rt.setRow_below HGE.out HBL.out _⟩
  · skip
    rw [e1]
    have HA : Hid _ := grp_no e2 e3
    clear e1 e2 e3 hS2
    go_wp2_with (refine stKy HK.out zK rfl _ _ rfl rfl rfl ?_)
    refine bodyPost_ret (results_ky2 (p := 2) (t := 3) rfl _ _ K zK rfl (KyAt.row HK.out _)) rfl ?_
    exact ⟨HA.out, Rt.setRow_below HGE.out HBL.out _⟩
  · rw [e1]
    have HA : Hid _ := grp_yes e2 e3
    obtain ⟨_, _, a4, a5⟩ := hS2.mb.key
    clear e1 e2 e3 hS2
    go_wp2_with (refine stKy HK.out m.p2 rfl _ _ rfl rfl rfl ?_)
    refine bodyPost_ret (results_ky2 (p := 2) (t := 3) rfl _ _ K m.p2 rfl (KyAt.row HK.out _)) rfl ?_
    exact ⟨HA.out, Rt.setRow_below HGE.out HBL.out _⟩
  · rcases e1 with e1 | e1
    · skip
      rw [e1]
      have HA : Hid _ := grp_no e2 e3
      clear e1 e2 e3 hS2
      go_wp2_with (refine stKy HK.out zK rfl _ _ rfl rfl rfl ?_)
      refine bodyPost_ret (results_ky2 (p := 2) (t := 3) rfl _ _ K zK rfl (KyAt.row HK.out _)) rfl ?_
      exact ⟨HA.out, Rt.setRow_below HGE.out HBL.out _⟩
    · skip
      rw [e1]
      have HA : Hid _ := grp_no e2 e3
      clear e1 e2 e3 hS2
      go_wp2_with (refine stKy HK.out zK rfl _ _ rfl rfl rfl ?_)
      refine bodyPost_ret (results_ky2 (p := 2) (t := 3) rfl _ _ K zK rfl (KyAt.row HK.out _)) rfl ?_
      exact ⟨HA.out, Rt.setRow_below HGE.out HBL.out _⟩
end Go.Proofs.Ytpimbpfefhkojaa.Mb
