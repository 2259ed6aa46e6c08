/- Contract: the document's Good. -/
import Derived.Test.YtdkfifnhmfbagaaWiH
import Derived.Test.YtdkfifnhmfbagaaWiI
namespace Go.Proofs.Ytdkfifnhmfbagaa.Wi
open Go.RowKit Go.Maps
set_option linter.unusedVariables false
set_option linter.unusedSimpArgs false

set_option maxRecDepth 100000 in
set_option maxHeartbeats 2000000 in
theorem rGood_1 (m : Msg) (aL aJ aI : Option Addr) (cL cJ cI : Nat) (w : World) (hr : MR w m aL aJ aI) (hkd : m.kd = 1) :
    Calls Try.prog 8 #[.agg (mgv m aL aJ aI cL cJ cI).toArray] w fun e w' => e = .returned (.bool (gM m)) ∧ Below w.heap.size w w' := by
  unfold mgv
  have hsm := fun W (hb : Below w.heap.size w W) => sameR_any m.rk zR aL aJ aI none none none cL cJ cI 0 0 0 W (hr.l.later hb) (hr.j.later hb) (hr.i.later hb) (RdV.nil _ _ _ _) (RdV.nil _ _ _ _) (RdV.nil _ _ _ _) hr.nl hr.nj hr.ni (by show (0 : Nat) < _; decide) (by show (0 : Nat) < _; decide) (by show (0 : Nat) < _; decide)
  have HR : Hid (MR w m aL aJ aI) := hr
  clear hr
  have eq1 := fun W => run_eqPr 27 (w := W) 9998 m.rq zQ (.inr (.inr rfl))
  have eq2 := fun W => run_eqRp (w := W) 9995 m.rp zP
  have eq3 := fun W => run_eqSd (w := W) 9997 m.sd zD
  have hM : MgAt (w.alloc (.cells (mgl m (.slice aL m.rk.2.1.length cL) (.slice aJ m.rk.2.2.1.length cJ) (.slice aI m.rk.2.2.2.length cI)).toArray 38)) w.heap.size m (.slice aL m.rk.2.1.length cL) (.slice aJ m.rk.2.2.1.length cJ) (.slice aI m.rk.2.2.2.length cI) := heap_alloc_last w _
  have hB := below_alloc w (.cells (mgl m (.slice aL m.rk.2.1.length cL) (.slice aJ m.rk.2.2.1.length cJ) (.slice aI m.rk.2.2.2.length cI)).toArray 38)
  obtain ⟨nL, hnL⟩ : ∃ n, m.rk.2.1.length = n := ⟨_, rfl⟩
  obtain ⟨nJ, hnJ⟩ : ∃ n, m.rk.2.2.1.length = n := ⟨_, rfl⟩
  obtain ⟨nI, hnI⟩ : ∃ n, m.rk.2.2.2.length = n := ⟨_, rfl⟩
  have HEQ : Hid (m.rk.2.1.length = nL ∧ m.rk.2.2.1.length = nJ ∧ m.rk.2.2.2.length = nI) := ⟨hnL, hnJ, hnI⟩
  simp only [hnL, hnJ, hnI] at hsm hM hB
  rw [hnL, hnJ, hnI]
  clear hnL hnJ hnI
  obtain ⟨ct, hct⟩ : ∃ c, (mgl m (.slice aL nL cL) (.slice aJ nJ cJ) (.slice aI nI cI)).toArray = c := ⟨_, rfl⟩
  rw [hct] at hB
  rw [hct]
  have HM : Hid (MgAt (w.alloc (.cells ct 38)) w.heap.size m (.slice aL nL cL) (.slice aJ nJ cJ) (.slice aI nI cI)) := by have h := hM; rw [hct] at h; exact h
  clear hM hct
  obtain ⟨nr, hnr⟩ : ∃ b, nR m.rk = b := ⟨_, rfl⟩
  have HNR : Hid (nR m.rk = nr) := hnr
  have HG : Hid (gM m = (gR m.rk && (decide (m.rq = zQ) && (decide (m.rp = zP) && decide (m.sd = zD))))) := by unfold Hid gM; rw [if_pos hkd]
  have hP := fun W (hb : Below w.heap.size w W) => rRekey_any m.rk aL aJ aI cL cJ cI W (HR.out.l.later hb) (HR.out.j.later hb) (HR.out.i.later hb) HR.out.nl HR.out.nj HR.out.ni
  simp only [HEQ.out.1, HEQ.out.2.1, HEQ.out.2.2] at hP
  generalize decide (m.rq = zQ) = g1 at *
  generalize decide (m.rp = zP) = g2 at *
  generalize decide (m.sd = zD) = g3 at *
  generalize gR m.rk = g0 at *
  rw [HG.out]
  clear HG
  clear hnr
  go_enter Try.func8, Try.ntmps8
  go_upto_region 1 with (fail)
  generalize w.alloc (.cells ct 38) = w1 at *
  obtain ⟨B, hBe⟩ : ∃ B, w.heap.size = B := ⟨_, rfl⟩
  rw [hBe] at HM ⊢
  clear hBe
  have HB : Hid (Below w.heap.size w w1) := hB
  clear hB
  have HK : Hid (w1.rangeAt B 1 (rkl m.rk.1 (.slice aL nL cL) (.slice aJ nJ cJ) (.slice aI nI cI))) := HM.out.rk
  have hsm := hsm w1 HB.out
  go_wp2_with (refine ldM HK.out Try.underlying25 rfl szRk _ rfl rfl rfl ?_)
  refine hsm.mono ?_
  rintro q w2 ⟨⟨bn, rfl, hbn⟩, hb2⟩
  obtain rfl : bn = nr := by
    have h2 : nR m.rk = true ↔ m.rk = zR := nR_iff
    rw [Bool.eq_iff_iff, hbn, ← HNR.out, h2]
  have HM2 : Hid (MgAt w2 B m (.slice aL nL cL) (.slice aJ nJ cJ) (.slice aI nI cI)) := HM.out.later hb2
  have HB2 : Hid (Below w.heap.size w w2) := Below.join HB.out hb2
  clear hsm hb2 HM HB HK hbn
  have ck := HM2.out.kind
  rw [hkd] at ck
  clear hkd
  have H1 : Hid (w2.rangeAt B 5 (stl m.rq)) := HM2.out.rq
  have H2 : Hid (w2.rangeAt B 7 (rpl m.rp)) := HM2.out.rp
  have H3 : Hid (w2.rangeAt B 22 (sdl m.sd)) := HM2.out.sd
  have EQ1 : Hid _ := eq1
  have EQ2 : Hid _ := eq2
  have EQ3 : Hid _ := eq3
  clear eq1 eq2 eq3
  have eq1 := EQ1.out w2
  have eq2 := EQ2.out w2
  have eq3 := EQ3.out w2
  have HK : Hid (w2.rangeAt B 1 (rkl m.rk.1 (.slice aL nL cL) (.slice aJ nJ cJ) (.slice aI nI cI))) := HM2.out.rk
  have hP := hP w2 HB2.out
  go_wp2_with (first | (refine ldM HK.out Try.underlying25 rfl szRk _ rfl rfl rfl ?_) | (refine ldM H1.out Try.underlying27 rfl szRq _ rfl rfl rfl ?_) | (refine eqX eq1 Try.eqGuardType27 _ _ rfl rfl rfl rfl ?_) | (refine ldM H2.out Try.underlying34 rfl szRp _ rfl rfl rfl ?_) | (refine eqX eq2 Try.eqGuardType34 _ _ rfl rfl rfl rfl ?_) | (refine ldM H3.out Try.underlying36 rfl szSd _ rfl rfl rfl ?_) | (refine eqX eq3 Try.eqGuardType36 _ _ rfl rfl rfl rfl ?_))
  refine hP.mono ?_
  rintro q w3 ⟨rfl, hb3⟩
  have hM3 := HM2.out.later hb3
  have HB3 : Hid (Below w.heap.size w w3) := Below.join HB2.out hb3
  clear H1 H2 H3 eq1 eq2 eq3 HK hP hb3 HM2
  have H1 : Hid (w3.rangeAt B 5 (stl m.rq)) := hM3.rq
  have H2 : Hid (w3.rangeAt B 7 (rpl m.rp)) := hM3.rp
  have H3 : Hid (w3.rangeAt B 22 (sdl m.sd)) := hM3.sd
  have eq1 := EQ1.out w3
  have eq2 := EQ2.out w3
  have eq3 := EQ3.out w3
  clear hM3
  cases g0 with
  | false =>
    go_wp2_with fail
    go_ret
    exact ⟨rfl, HB3.out⟩
  | true =>
    cases g1 with
    | false =>
      go_wp2_with (first | (refine ldM H1.out Try.underlying27 rfl szRq _ rfl rfl rfl ?_) | (refine eqX eq1 Try.eqGuardType27 _ _ rfl rfl rfl rfl ?_) | (refine ldM H2.out Try.underlying34 rfl szRp _ rfl rfl rfl ?_) | (refine eqX eq2 Try.eqGuardType34 _ _ rfl rfl rfl rfl ?_) | (refine ldM H3.out Try.underlying36 rfl szSd _ rfl rfl rfl ?_) | (refine eqX eq3 Try.eqGuardType36 _ _ rfl rfl rfl rfl ?_))
      go_ret
      exact ⟨rfl, HB3.out⟩
    | true =>
      cases g2 with
      | false =>
        go_wp2_with (first | (refine ldM H1.out Try.underlying27 rfl szRq _ rfl rfl rfl ?_) | (refine eqX eq1 Try.eqGuardType27 _ _ rfl rfl rfl rfl ?_) | (refine ldM H2.out Try.underlying34 rfl szRp _ rfl rfl rfl ?_) | (refine eqX eq2 Try.eqGuardType34 _ _ rfl rfl rfl rfl ?_) | (refine ldM H3.out Try.underlying36 rfl szSd _ rfl rfl rfl ?_) | (refine eqX eq3 Try.eqGuardType36 _ _ rfl rfl rfl rfl ?_))
        go_ret
        exact ⟨rfl, HB3.out⟩
      | true =>
        go_wp2_with (first | (refine ldM H1.out Try.underlying27 rfl szRq _ rfl rfl rfl ?_) | (refine eqX eq1 Try.eqGuardType27 _ _ rfl rfl rfl rfl ?_) | (refine ldM H2.out Try.underlying34 rfl szRp _ rfl rfl rfl ?_) | (refine eqX eq2 Try.eqGuardType34 _ _ rfl rfl rfl rfl ?_) | (refine ldM H3.out Try.underlying36 rfl szSd _ rfl rfl rfl ?_) | (refine eqX eq3 Try.eqGuardType36 _ _ rfl rfl rfl rfl ?_))
        go_ret
        exact ⟨by cases g3 <;> rfl, HB3.out⟩
set_option maxRecDepth 100000 in
set_option maxHeartbeats 2000000 in
theorem rGood_2 (m : Msg) (aL aJ aI : Option Addr) (cL cJ cI : Nat) (w : World) (hr : MR w m aL aJ aI) (hkd : m.kd = 2) :
    Calls Try.prog 8 #[.agg (mgv m aL aJ aI cL cJ cI).toArray] w fun e w' => e = .returned (.bool (gM m)) ∧ Below w.heap.size w w' := by
  unfold mgv
  have hsm := fun W (hb : Below w.heap.size w W) => sameR_any m.rk zR aL aJ aI none none none cL cJ cI 0 0 0 W (hr.l.later hb) (hr.j.later hb) (hr.i.later hb) (RdV.nil _ _ _ _) (RdV.nil _ _ _ _) (RdV.nil _ _ _ _) hr.nl hr.nj hr.ni (by show (0 : Nat) < _; decide) (by show (0 : Nat) < _; decide) (by show (0 : Nat) < _; decide)
  have HR : Hid (MR w m aL aJ aI) := hr
  clear hr
  have eq1 := fun W => run_eqPr 27 (w := W) 9998 m.rq zQ (.inr (.inr rfl))
  have eq2 := fun W => run_eqRp (w := W) 9995 m.rp zP
  have eq3 := fun W => run_eqSd (w := W) 9997 m.sd zD
  have hM : MgAt (w.alloc (.cells (mgl m (.slice aL m.rk.2.1.length cL) (.slice aJ m.rk.2.2.1.length cJ) (.slice aI m.rk.2.2.2.length cI)).toArray 38)) w.heap.size m (.slice aL m.rk.2.1.length cL) (.slice aJ m.rk.2.2.1.length cJ) (.slice aI m.rk.2.2.2.length cI) := heap_alloc_last w _
  have hB := below_alloc w (.cells (mgl m (.slice aL m.rk.2.1.length cL) (.slice aJ m.rk.2.2.1.length cJ) (.slice aI m.rk.2.2.2.length cI)).toArray 38)
  obtain ⟨nL, hnL⟩ : ∃ n, m.rk.2.1.length = n := ⟨_, rfl⟩
  obtain ⟨nJ, hnJ⟩ : ∃ n, m.rk.2.2.1.length = n := ⟨_, rfl⟩
  obtain ⟨nI, hnI⟩ : ∃ n, m.rk.2.2.2.length = n := ⟨_, rfl⟩
  have HEQ : Hid (m.rk.2.1.length = nL ∧ m.rk.2.2.1.length = nJ ∧ m.rk.2.2.2.length = nI) := ⟨hnL, hnJ, hnI⟩
  simp only [hnL, hnJ, hnI] at hsm hM hB
  rw [hnL, hnJ, hnI]
  clear hnL hnJ hnI
  obtain ⟨ct, hct⟩ : ∃ c, (mgl m (.slice aL nL cL) (.slice aJ nJ cJ) (.slice aI nI cI)).toArray = c := ⟨_, rfl⟩
  rw [hct] at hB
  rw [hct]
  have HM : Hid (MgAt (w.alloc (.cells ct 38)) w.heap.size m (.slice aL nL cL) (.slice aJ nJ cJ) (.slice aI nI cI)) := by have h := hM; rw [hct] at h; exact h
  clear hM hct
  obtain ⟨nr, hnr⟩ : ∃ b, nR m.rk = b := ⟨_, rfl⟩
  have HNR : Hid (nR m.rk = nr) := hnr
  have HG : Hid (gM m = (nr && (gQ m.rq && (decide (m.rp = zP) && decide (m.sd = zD))))) := by unfold Hid gM; rw [if_neg (by omega), if_pos hkd, hnr]
  have hP := rRequest_any m.rq
  generalize decide (m.rp = zP) = g2 at *
  generalize decide (m.sd = zD) = g3 at *
  generalize gQ m.rq = g0 at *
  rw [HG.out]
  clear HG
  clear hnr
  go_enter Try.func8, Try.ntmps8
  go_upto_region 1 with (fail)
  generalize w.alloc (.cells ct 38) = w1 at *
  obtain ⟨B, hBe⟩ : ∃ B, w.heap.size = B := ⟨_, rfl⟩
  rw [hBe] at HM ⊢
  clear hBe
  have HB : Hid (Below w.heap.size w w1) := hB
  clear hB
  have HK : Hid (w1.rangeAt B 1 (rkl m.rk.1 (.slice aL nL cL) (.slice aJ nJ cJ) (.slice aI nI cI))) := HM.out.rk
  have hsm := hsm w1 HB.out
  go_wp2_with (refine ldM HK.out Try.underlying25 rfl szRk _ rfl rfl rfl ?_)
  refine hsm.mono ?_
  rintro q w2 ⟨⟨bn, rfl, hbn⟩, hb2⟩
  obtain rfl : bn = nr := by
    have h2 : nR m.rk = true ↔ m.rk = zR := nR_iff
    rw [Bool.eq_iff_iff, hbn, ← HNR.out, h2]
  have HM2 : Hid (MgAt w2 B m (.slice aL nL cL) (.slice aJ nJ cJ) (.slice aI nI cI)) := HM.out.later hb2
  have HB2 : Hid (Below w.heap.size w w2) := Below.join HB.out hb2
  clear hsm hb2 HM HB HK hbn
  have ck := HM2.out.kind
  rw [hkd] at ck
  clear hkd
  have H1 : Hid (w2.rangeAt B 5 (stl m.rq)) := HM2.out.rq
  have H2 : Hid (w2.rangeAt B 7 (rpl m.rp)) := HM2.out.rp
  have H3 : Hid (w2.rangeAt B 22 (sdl m.sd)) := HM2.out.sd
  have EQ1 : Hid _ := eq1
  have EQ2 : Hid _ := eq2
  have EQ3 : Hid _ := eq3
  clear eq1 eq2 eq3
  have eq1 := EQ1.out w2
  have eq2 := EQ2.out w2
  have eq3 := EQ3.out w2
  cases bn with
  | false =>
    go_wp2_with fail
    go_ret
    exact ⟨rfl, HB2.out⟩
  | true =>
    go_wp2_with (first | (refine ldM H1.out Try.underlying27 rfl szRq _ rfl rfl rfl ?_) | (refine eqX eq1 Try.eqGuardType27 _ _ rfl rfl rfl rfl ?_) | (refine ldM H2.out Try.underlying34 rfl szRp _ rfl rfl rfl ?_) | (refine eqX eq2 Try.eqGuardType34 _ _ rfl rfl rfl rfl ?_) | (refine ldM H3.out Try.underlying36 rfl szSd _ rfl rfl rfl ?_) | (refine eqX eq3 Try.eqGuardType36 _ _ rfl rfl rfl rfl ?_))
    refine (hP _).mono ?_
    rintro q w3 ⟨rfl, hb3⟩
    have hM3 := HM2.out.later hb3
    have HB3 : Hid (Below w.heap.size w w3) := Below.join HB2.out hb3
    clear H1 H2 H3 eq1 eq2 eq3 hP hb3 HM2
    have H1 : Hid (w3.rangeAt B 5 (stl m.rq)) := hM3.rq
    have H2 : Hid (w3.rangeAt B 7 (rpl m.rp)) := hM3.rp
    have H3 : Hid (w3.rangeAt B 22 (sdl m.sd)) := hM3.sd
    have eq1 := EQ1.out w3
    have eq2 := EQ2.out w3
    have eq3 := EQ3.out w3
    clear hM3
    cases g0 with
    | false =>
      go_wp2_with fail
      go_ret
      exact ⟨rfl, HB3.out⟩
    | true =>
      cases g2 with
      | false =>
        go_wp2_with (first | (refine ldM H1.out Try.underlying27 rfl szRq _ rfl rfl rfl ?_) | (refine eqX eq1 Try.eqGuardType27 _ _ rfl rfl rfl rfl ?_) | (refine ldM H2.out Try.underlying34 rfl szRp _ rfl rfl rfl ?_) | (refine eqX eq2 Try.eqGuardType34 _ _ rfl rfl rfl rfl ?_) | (refine ldM H3.out Try.underlying36 rfl szSd _ rfl rfl rfl ?_) | (refine eqX eq3 Try.eqGuardType36 _ _ rfl rfl rfl rfl ?_))
        go_ret
        exact ⟨rfl, HB3.out⟩
      | true =>
        go_wp2_with (first | (refine ldM H1.out Try.underlying27 rfl szRq _ rfl rfl rfl ?_) | (refine eqX eq1 Try.eqGuardType27 _ _ rfl rfl rfl rfl ?_) | (refine ldM H2.out Try.underlying34 rfl szRp _ rfl rfl rfl ?_) | (refine eqX eq2 Try.eqGuardType34 _ _ rfl rfl rfl rfl ?_) | (refine ldM H3.out Try.underlying36 rfl szSd _ rfl rfl rfl ?_) | (refine eqX eq3 Try.eqGuardType36 _ _ rfl rfl rfl rfl ?_))
        go_ret
        exact ⟨by cases g3 <;> rfl, HB3.out⟩
set_option maxRecDepth 100000 in
set_option maxHeartbeats 2000000 in
theorem rGood_3 (m : Msg) (aL aJ aI : Option Addr) (cL cJ cI : Nat) (w : World) (hr : MR w m aL aJ aI) (hkd : m.kd = 3) :
    Calls Try.prog 8 #[.agg (mgv m aL aJ aI cL cJ cI).toArray] w fun e w' => e = .returned (.bool (gM m)) ∧ Below w.heap.size w w' := by
  unfold mgv
  have hsm := fun W (hb : Below w.heap.size w W) => sameR_any m.rk zR aL aJ aI none none none cL cJ cI 0 0 0 W (hr.l.later hb) (hr.j.later hb) (hr.i.later hb) (RdV.nil _ _ _ _) (RdV.nil _ _ _ _) (RdV.nil _ _ _ _) hr.nl hr.nj hr.ni (by show (0 : Nat) < _; decide) (by show (0 : Nat) < _; decide) (by show (0 : Nat) < _; decide)
  have HR : Hid (MR w m aL aJ aI) := hr
  clear hr
  have eq1 := fun W => run_eqPr 27 (w := W) 9998 m.rq zQ (.inr (.inr rfl))
  have eq2 := fun W => run_eqRp (w := W) 9995 m.rp zP
  have eq3 := fun W => run_eqSd (w := W) 9997 m.sd zD
  have hM : MgAt (w.alloc (.cells (mgl m (.slice aL m.rk.2.1.length cL) (.slice aJ m.rk.2.2.1.length cJ) (.slice aI m.rk.2.2.2.length cI)).toArray 38)) w.heap.size m (.slice aL m.rk.2.1.length cL) (.slice aJ m.rk.2.2.1.length cJ) (.slice aI m.rk.2.2.2.length cI) := heap_alloc_last w _
  have hB := below_alloc w (.cells (mgl m (.slice aL m.rk.2.1.length cL) (.slice aJ m.rk.2.2.1.length cJ) (.slice aI m.rk.2.2.2.length cI)).toArray 38)
  obtain ⟨nL, hnL⟩ : ∃ n, m.rk.2.1.length = n := ⟨_, rfl⟩
  obtain ⟨nJ, hnJ⟩ : ∃ n, m.rk.2.2.1.length = n := ⟨_, rfl⟩
  obtain ⟨nI, hnI⟩ : ∃ n, m.rk.2.2.2.length = n := ⟨_, rfl⟩
  have HEQ : Hid (m.rk.2.1.length = nL ∧ m.rk.2.2.1.length = nJ ∧ m.rk.2.2.2.length = nI) := ⟨hnL, hnJ, hnI⟩
  simp only [hnL, hnJ, hnI] at hsm hM hB
  rw [hnL, hnJ, hnI]
  clear hnL hnJ hnI
  obtain ⟨ct, hct⟩ : ∃ c, (mgl m (.slice aL nL cL) (.slice aJ nJ cJ) (.slice aI nI cI)).toArray = c := ⟨_, rfl⟩
  rw [hct] at hB
  rw [hct]
  have HM : Hid (MgAt (w.alloc (.cells ct 38)) w.heap.size m (.slice aL nL cL) (.slice aJ nJ cJ) (.slice aI nI cI)) := by have h := hM; rw [hct] at h; exact h
  clear hM hct
  obtain ⟨nr, hnr⟩ : ∃ b, nR m.rk = b := ⟨_, rfl⟩
  have HNR : Hid (nR m.rk = nr) := hnr
  have HG : Hid (gM m = (nr && (decide (m.rq = zQ) && (gP m.rp && decide (m.sd = zD))))) := by unfold Hid gM; rw [if_neg (by omega), if_neg (by omega), if_pos hkd, hnr]
  have hP := rReply_any m.rp
  generalize decide (m.rq = zQ) = g1 at *
  generalize decide (m.sd = zD) = g3 at *
  generalize gP m.rp = g0 at *
  rw [HG.out]
  clear HG
  clear hnr
  go_enter Try.func8, Try.ntmps8
  go_upto_region 1 with (fail)
  generalize w.alloc (.cells ct 38) = w1 at *
  obtain ⟨B, hBe⟩ : ∃ B, w.heap.size = B := ⟨_, rfl⟩
  rw [hBe] at HM ⊢
  clear hBe
  have HB : Hid (Below w.heap.size w w1) := hB
  clear hB
  have HK : Hid (w1.rangeAt B 1 (rkl m.rk.1 (.slice aL nL cL) (.slice aJ nJ cJ) (.slice aI nI cI))) := HM.out.rk
  have hsm := hsm w1 HB.out
  go_wp2_with (refine ldM HK.out Try.underlying25 rfl szRk _ rfl rfl rfl ?_)
  refine hsm.mono ?_
  rintro q w2 ⟨⟨bn, rfl, hbn⟩, hb2⟩
  obtain rfl : bn = nr := by
    have h2 : nR m.rk = true ↔ m.rk = zR := nR_iff
    rw [Bool.eq_iff_iff, hbn, ← HNR.out, h2]
  have HM2 : Hid (MgAt w2 B m (.slice aL nL cL) (.slice aJ nJ cJ) (.slice aI nI cI)) := HM.out.later hb2
  have HB2 : Hid (Below w.heap.size w w2) := Below.join HB.out hb2
  clear hsm hb2 HM HB HK hbn
  have ck := HM2.out.kind
  rw [hkd] at ck
  clear hkd
  have H1 : Hid (w2.rangeAt B 5 (stl m.rq)) := HM2.out.rq
  have H2 : Hid (w2.rangeAt B 7 (rpl m.rp)) := HM2.out.rp
  have H3 : Hid (w2.rangeAt B 22 (sdl m.sd)) := HM2.out.sd
  have EQ1 : Hid _ := eq1
  have EQ2 : Hid _ := eq2
  have EQ3 : Hid _ := eq3
  clear eq1 eq2 eq3
  have eq1 := EQ1.out w2
  have eq2 := EQ2.out w2
  have eq3 := EQ3.out w2
  cases bn with
  | false =>
    go_wp2_with fail
    go_ret
    exact ⟨rfl, HB2.out⟩
  | true =>
    cases g1 with
    | false =>
      go_wp2_with (first | (refine ldM H1.out Try.underlying27 rfl szRq _ rfl rfl rfl ?_) | (refine eqX eq1 Try.eqGuardType27 _ _ rfl rfl rfl rfl ?_) | (refine ldM H2.out Try.underlying34 rfl szRp _ rfl rfl rfl ?_) | (refine eqX eq2 Try.eqGuardType34 _ _ rfl rfl rfl rfl ?_) | (refine ldM H3.out Try.underlying36 rfl szSd _ rfl rfl rfl ?_) | (refine eqX eq3 Try.eqGuardType36 _ _ rfl rfl rfl rfl ?_))
      go_ret
      exact ⟨rfl, HB2.out⟩
    | true =>
      go_wp2_with (first | (refine ldM H1.out Try.underlying27 rfl szRq _ rfl rfl rfl ?_) | (refine eqX eq1 Try.eqGuardType27 _ _ rfl rfl rfl rfl ?_) | (refine ldM H2.out Try.underlying34 rfl szRp _ rfl rfl rfl ?_) | (refine eqX eq2 Try.eqGuardType34 _ _ rfl rfl rfl rfl ?_) | (refine ldM H3.out Try.underlying36 rfl szSd _ rfl rfl rfl ?_) | (refine eqX eq3 Try.eqGuardType36 _ _ rfl rfl rfl rfl ?_))
      refine (hP _).mono ?_
      rintro q w3 ⟨rfl, hb3⟩
      have hM3 := HM2.out.later hb3
      have HB3 : Hid (Below w.heap.size w w3) := Below.join HB2.out hb3
      clear H1 H2 H3 eq1 eq2 eq3 hP hb3 HM2
      have H1 : Hid (w3.rangeAt B 5 (stl m.rq)) := hM3.rq
      have H2 : Hid (w3.rangeAt B 7 (rpl m.rp)) := hM3.rp
      have H3 : Hid (w3.rangeAt B 22 (sdl m.sd)) := hM3.sd
      have eq1 := EQ1.out w3
      have eq2 := EQ2.out w3
      have eq3 := EQ3.out w3
      clear hM3
      cases g0 with
      | false =>
        go_wp2_with fail
        go_ret
        exact ⟨rfl, HB3.out⟩
      | true =>
        go_wp2_with (first | (refine ldM H1.out Try.underlying27 rfl szRq _ rfl rfl rfl ?_) | (refine eqX eq1 Try.eqGuardType27 _ _ rfl rfl rfl rfl ?_) | (refine ldM H2.out Try.underlying34 rfl szRp _ rfl rfl rfl ?_) | (refine eqX eq2 Try.eqGuardType34 _ _ rfl rfl rfl rfl ?_) | (refine ldM H3.out Try.underlying36 rfl szSd _ rfl rfl rfl ?_) | (refine eqX eq3 Try.eqGuardType36 _ _ rfl rfl rfl rfl ?_))
        go_ret
        exact ⟨by cases g3 <;> rfl, HB3.out⟩
set_option maxRecDepth 100000 in
set_option maxHeartbeats 2000000 in
theorem rGood_4 (m : Msg) (aL aJ aI : Option Addr) (cL cJ cI : Nat) (w : World) (hr : MR w m aL aJ aI) (hkd : m.kd = 4) :
    Calls Try.prog 8 #[.agg (mgv m aL aJ aI cL cJ cI).toArray] w fun e w' => e = .returned (.bool (gM m)) ∧ Below w.heap.size w w' := by
  unfold mgv
  have hsm := fun W (hb : Below w.heap.size w W) => sameR_any m.rk zR aL aJ aI none none none cL cJ cI 0 0 0 W (hr.l.later hb) (hr.j.later hb) (hr.i.later hb) (RdV.nil _ _ _ _) (RdV.nil _ _ _ _) (RdV.nil _ _ _ _) hr.nl hr.nj hr.ni (by show (0 : Nat) < _; decide) (by show (0 : Nat) < _; decide) (by show (0 : Nat) < _; decide)
  have HR : Hid (MR w m aL aJ aI) := hr
  clear hr
  have eq1 := fun W => run_eqPr 27 (w := W) 9998 m.rq zQ (.inr (.inr rfl))
  have eq2 := fun W => run_eqRp (w := W) 9995 m.rp zP
  have eq3 := fun W => run_eqSd (w := W) 9997 m.sd zD
  have hM : MgAt (w.alloc (.cells (mgl m (.slice aL m.rk.2.1.length cL) (.slice aJ m.rk.2.2.1.length cJ) (.slice aI m.rk.2.2.2.length cI)).toArray 38)) w.heap.size m (.slice aL m.rk.2.1.length cL) (.slice aJ m.rk.2.2.1.length cJ) (.slice aI m.rk.2.2.2.length cI) := heap_alloc_last w _
  have hB := below_alloc w (.cells (mgl m (.slice aL m.rk.2.1.length cL) (.slice aJ m.rk.2.2.1.length cJ) (.slice aI m.rk.2.2.2.length cI)).toArray 38)
  obtain ⟨nL, hnL⟩ : ∃ n, m.rk.2.1.length = n := ⟨_, rfl⟩
  obtain ⟨nJ, hnJ⟩ : ∃ n, m.rk.2.2.1.length = n := ⟨_, rfl⟩
  obtain ⟨nI, hnI⟩ : ∃ n, m.rk.2.2.2.length = n := ⟨_, rfl⟩
  have HEQ : Hid (m.rk.2.1.length = nL ∧ m.rk.2.2.1.length = nJ ∧ m.rk.2.2.2.length = nI) := ⟨hnL, hnJ, hnI⟩
  simp only [hnL, hnJ, hnI] at hsm hM hB
  rw [hnL, hnJ, hnI]
  clear hnL hnJ hnI
  obtain ⟨ct, hct⟩ : ∃ c, (mgl m (.slice aL nL cL) (.slice aJ nJ cJ) (.slice aI nI cI)).toArray = c := ⟨_, rfl⟩
  rw [hct] at hB
  rw [hct]
  have HM : Hid (MgAt (w.alloc (.cells ct 38)) w.heap.size m (.slice aL nL cL) (.slice aJ nJ cJ) (.slice aI nI cI)) := by have h := hM; rw [hct] at h; exact h
  clear hM hct
  obtain ⟨nr, hnr⟩ : ∃ b, nR m.rk = b := ⟨_, rfl⟩
  have HNR : Hid (nR m.rk = nr) := hnr
  have HG : Hid (gM m = (nr && (decide (m.rq = zQ) && (decide (m.rp = zP) && gD m.sd)))) := by unfold Hid gM; rw [if_neg (by omega), if_neg (by omega), if_neg (by omega), if_pos hkd, hnr]
  have hP := fun W => rSealed_any m.sd W HR.out.ns
  generalize decide (m.rq = zQ) = g1 at *
  generalize decide (m.rp = zP) = g2 at *
  generalize gD m.sd = g0 at *
  rw [HG.out]
  clear HG
  clear hnr
  go_enter Try.func8, Try.ntmps8
  go_upto_region 1 with (fail)
  generalize w.alloc (.cells ct 38) = w1 at *
  obtain ⟨B, hBe⟩ : ∃ B, w.heap.size = B := ⟨_, rfl⟩
  rw [hBe] at HM ⊢
  clear hBe
  have HB : Hid (Below w.heap.size w w1) := hB
  clear hB
  have HK : Hid (w1.rangeAt B 1 (rkl m.rk.1 (.slice aL nL cL) (.slice aJ nJ cJ) (.slice aI nI cI))) := HM.out.rk
  have hsm := hsm w1 HB.out
  go_wp2_with (refine ldM HK.out Try.underlying25 rfl szRk _ rfl rfl rfl ?_)
  refine hsm.mono ?_
  rintro q w2 ⟨⟨bn, rfl, hbn⟩, hb2⟩
  obtain rfl : bn = nr := by
    have h2 : nR m.rk = true ↔ m.rk = zR := nR_iff
    rw [Bool.eq_iff_iff, hbn, ← HNR.out, h2]
  have HM2 : Hid (MgAt w2 B m (.slice aL nL cL) (.slice aJ nJ cJ) (.slice aI nI cI)) := HM.out.later hb2
  have HB2 : Hid (Below w.heap.size w w2) := Below.join HB.out hb2
  clear hsm hb2 HM HB HK hbn
  have ck := HM2.out.kind
  rw [hkd] at ck
  clear hkd
  have H1 : Hid (w2.rangeAt B 5 (stl m.rq)) := HM2.out.rq
  have H2 : Hid (w2.rangeAt B 7 (rpl m.rp)) := HM2.out.rp
  have H3 : Hid (w2.rangeAt B 22 (sdl m.sd)) := HM2.out.sd
  have EQ1 : Hid _ := eq1
  have EQ2 : Hid _ := eq2
  have EQ3 : Hid _ := eq3
  clear eq1 eq2 eq3
  have eq1 := EQ1.out w2
  have eq2 := EQ2.out w2
  have eq3 := EQ3.out w2
  cases bn with
  | false =>
    go_wp2_with fail
    go_ret
    exact ⟨rfl, HB2.out⟩
  | true =>
    cases g1 with
    | false =>
      go_wp2_with (first | (refine ldM H1.out Try.underlying27 rfl szRq _ rfl rfl rfl ?_) | (refine eqX eq1 Try.eqGuardType27 _ _ rfl rfl rfl rfl ?_) | (refine ldM H2.out Try.underlying34 rfl szRp _ rfl rfl rfl ?_) | (refine eqX eq2 Try.eqGuardType34 _ _ rfl rfl rfl rfl ?_) | (refine ldM H3.out Try.underlying36 rfl szSd _ rfl rfl rfl ?_) | (refine eqX eq3 Try.eqGuardType36 _ _ rfl rfl rfl rfl ?_))
      go_ret
      exact ⟨rfl, HB2.out⟩
    | true =>
      cases g2 with
      | false =>
        go_wp2_with (first | (refine ldM H1.out Try.underlying27 rfl szRq _ rfl rfl rfl ?_) | (refine eqX eq1 Try.eqGuardType27 _ _ rfl rfl rfl rfl ?_) | (refine ldM H2.out Try.underlying34 rfl szRp _ rfl rfl rfl ?_) | (refine eqX eq2 Try.eqGuardType34 _ _ rfl rfl rfl rfl ?_) | (refine ldM H3.out Try.underlying36 rfl szSd _ rfl rfl rfl ?_) | (refine eqX eq3 Try.eqGuardType36 _ _ rfl rfl rfl rfl ?_))
        go_ret
        exact ⟨rfl, HB2.out⟩
      | true =>
        go_wp2_with (first | (refine ldM H1.out Try.underlying27 rfl szRq _ rfl rfl rfl ?_) | (refine eqX eq1 Try.eqGuardType27 _ _ rfl rfl rfl rfl ?_) | (refine ldM H2.out Try.underlying34 rfl szRp _ rfl rfl rfl ?_) | (refine eqX eq2 Try.eqGuardType34 _ _ rfl rfl rfl rfl ?_) | (refine ldM H3.out Try.underlying36 rfl szSd _ rfl rfl rfl ?_) | (refine eqX eq3 Try.eqGuardType36 _ _ rfl rfl rfl rfl ?_))
        refine (hP _).mono ?_
        rintro q w3 ⟨rfl, hb3⟩
        have hM3 := HM2.out.later hb3
        have HB3 : Hid (Below w.heap.size w w3) := Below.join HB2.out hb3
        clear H1 H2 H3 eq1 eq2 eq3 hP hb3 HM2
        have H1 : Hid (w3.rangeAt B 5 (stl m.rq)) := hM3.rq
        have H2 : Hid (w3.rangeAt B 7 (rpl m.rp)) := hM3.rp
        have H3 : Hid (w3.rangeAt B 22 (sdl m.sd)) := hM3.sd
        have eq1 := EQ1.out w3
        have eq2 := EQ2.out w3
        have eq3 := EQ3.out w3
        clear hM3
        go_wp2_with fail
        go_ret
        exact ⟨by cases g0 <;> rfl, HB3.out⟩
set_option maxRecDepth 100000 in
theorem rGood_0 (m : Msg) (aL aJ aI : Option Addr) (cL cJ cI : Nat) (w : World) (hr : MR w m aL aJ aI) (h1 : m.kd ≠ 1) (h2 : m.kd ≠ 2) (h3 : m.kd ≠ 3) (h4 : m.kd ≠ 4) :
    Calls Try.prog 8 #[.agg (mgv m aL aJ aI cL cJ cI).toArray] w fun e w' => e = .returned (.bool (gM m)) ∧ Below w.heap.size w w' := by
  unfold mgv
  have hsm := fun W (hb : Below w.heap.size w W) => sameR_any m.rk zR aL aJ aI none none none cL cJ cI 0 0 0 W (hr.l.later hb) (hr.j.later hb) (hr.i.later hb) (RdV.nil _ _ _ _) (RdV.nil _ _ _ _) (RdV.nil _ _ _ _) hr.nl hr.nj hr.ni (by show (0 : Nat) < _; decide) (by show (0 : Nat) < _; decide) (by show (0 : Nat) < _; decide)
  have HR : Hid (MR w m aL aJ aI) := hr
  clear hr
  have eq1 := fun W => run_eqPr 27 (w := W) 9998 m.rq zQ (.inr (.inr rfl))
  have eq2 := fun W => run_eqRp (w := W) 9995 m.rp zP
  have eq3 := fun W => run_eqSd (w := W) 9997 m.sd zD
  have hM : MgAt (w.alloc (.cells (mgl m (.slice aL m.rk.2.1.length cL) (.slice aJ m.rk.2.2.1.length cJ) (.slice aI m.rk.2.2.2.length cI)).toArray 38)) w.heap.size m (.slice aL m.rk.2.1.length cL) (.slice aJ m.rk.2.2.1.length cJ) (.slice aI m.rk.2.2.2.length cI) := heap_alloc_last w _
  have hB := below_alloc w (.cells (mgl m (.slice aL m.rk.2.1.length cL) (.slice aJ m.rk.2.2.1.length cJ) (.slice aI m.rk.2.2.2.length cI)).toArray 38)
  obtain ⟨nL, hnL⟩ : ∃ n, m.rk.2.1.length = n := ⟨_, rfl⟩
  obtain ⟨nJ, hnJ⟩ : ∃ n, m.rk.2.2.1.length = n := ⟨_, rfl⟩
  obtain ⟨nI, hnI⟩ : ∃ n, m.rk.2.2.2.length = n := ⟨_, rfl⟩
  have HEQ : Hid (m.rk.2.1.length = nL ∧ m.rk.2.2.1.length = nJ ∧ m.rk.2.2.2.length = nI) := ⟨hnL, hnJ, hnI⟩
  simp only [hnL, hnJ, hnI] at hsm hM hB
  rw [hnL, hnJ, hnI]
  clear hnL hnJ hnI
  obtain ⟨ct, hct⟩ : ∃ c, (mgl m (.slice aL nL cL) (.slice aJ nJ cJ) (.slice aI nI cI)).toArray = c := ⟨_, rfl⟩
  rw [hct] at hB
  rw [hct]
  have HM : Hid (MgAt (w.alloc (.cells ct 38)) w.heap.size m (.slice aL nL cL) (.slice aJ nJ cJ) (.slice aI nI cI)) := by have h := hM; rw [hct] at h; exact h
  clear hM hct
  obtain ⟨nr, hnr⟩ : ∃ b, nR m.rk = b := ⟨_, rfl⟩
  have HNR : Hid (nR m.rk = nr) := hnr
  have HG : Hid (gM m = false) := gM_0 h1 h2 h3 h4
  rw [HG.out]
  clear HG hnr eq1 eq2 eq3
  obtain ⟨kd, hkd⟩ : ∃ k, m.kd = k := ⟨_, rfl⟩
  rw [hkd] at h1 h2 h3 h4
  have HKD : Hid (m.kd = kd) := hkd
  clear hkd
  have d1 : decide (kd = 1) = false := by simp [h1]
  have d2 : decide (kd = 2) = false := by simp [h2]
  have d3 : decide (kd = 3) = false := by simp [h3]
  have d4 : decide (kd = 4) = false := by simp [h4]
  go_enter Try.func8, Try.ntmps8
  go_upto_region 1 with (fail)
  generalize w.alloc (.cells ct 38) = w1 at *
  obtain ⟨B, hBe⟩ : ∃ B, w.heap.size = B := ⟨_, rfl⟩
  rw [hBe] at HM ⊢
  clear hBe
  have HB : Hid (Below w.heap.size w w1) := hB
  clear hB
  have HK : Hid (w1.rangeAt B 1 (rkl m.rk.1 (.slice aL nL cL) (.slice aJ nJ cJ) (.slice aI nI cI))) := HM.out.rk
  have hsm := hsm w1 HB.out
  go_wp2_with (refine ldM HK.out Try.underlying25 rfl szRk _ rfl rfl rfl ?_)
  refine hsm.mono ?_
  rintro q w2 ⟨⟨bn, rfl, hbn⟩, hb2⟩
  have hM2 := HM.out.later hb2
  have HB2 : Hid (Below w.heap.size w w2) := Below.join HB.out hb2
  have ck := hM2.kind
  rw [HKD.out] at ck
  clear hsm hb2 HM HB HK hbn hM2
  go_wp2_with fail
  go_ret
  exact ⟨rfl, HB2.out⟩
theorem rGood_any (m : Msg) (aL aJ aI : Option Addr) (cL cJ cI : Nat) (w : World) (hr : MR w m aL aJ aI) :
    Calls Try.prog 8 #[.agg (mgv m aL aJ aI cL cJ cI).toArray] w fun e w' => e = .returned (.bool (gM m)) ∧ Below w.heap.size w w' := by
  by_cases h1 : m.kd = 1
  · exact rGood_1 m aL aJ aI cL cJ cI w hr h1
  · by_cases h2 : m.kd = 2
    · exact rGood_2 m aL aJ aI cL cJ cI w hr h2
    · by_cases h3 : m.kd = 3
      · exact rGood_3 m aL aJ aI cL cJ cI w hr h3
      · by_cases h4 : m.kd = 4
        · exact rGood_4 m aL aJ aI cL cJ cI w hr h4
        · exact rGood_0 m aL aJ aI cL cJ cI w hr h1 h2 h3 h4
end Go.Proofs.Ytdkfifnhmfbagaa.Wi
