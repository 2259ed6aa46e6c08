/- WiPd, WiPe, joined. -/
import Derived.Test.YtdkfifnhmfbagaaGreatWiJ3
/- Contract of the document's answer: Encode, at a reply. -/
namespace Go.Proofs.YtdkfifnhmfbagaaGreat.Wi
open Go.RowKit Go.Maps
open Bt (Kept tb bys RdF pkS pkE okF)
set_option linter.unusedVariables false
set_option linter.unusedSimpArgs false

set_option maxRecDepth 100000 in
set_option maxHeartbeats 2000000 in
theorem rEnc_3 (m : Msg) (aL aJ aI : Option Addr) (cL cJ cI : Nat) (w : World) (hr : MR w m aL aJ aI) (hg : gM m = true) (hk : m.kd = 3) :
    Calls Tryz.prog 9 #[.agg (mgv m aL aJ aI cL cJ cI).toArray] w fun e w' => e = .returned (.tuple #[.string (enS m), .int .i64 0]) ∧ Below w.heap.size w w' := by
  have hb1 := below_alloc w (.cells (mgv m aL aJ aI cL cJ cI).toArray 38)
  have h2 := rGood_any m aL aJ aI cL cJ cI _ (hr.later hb1)
  rw [hg] at h2
  have hM : MgAt _ w.heap.size m (.slice aL m.rk.2.1.length cL) (.slice aJ m.rk.2.2.1.length cJ) (.slice aI m.rk.2.2.2.length cI) := heap_alloc_last w (.cells (mgv m aL aJ aI cL cJ cI).toArray 38)
  have HGM : Hid (gM m = true) := hg
  have HR : Hid (MR w m aL aJ aI) := hr
  have HK : Hid (m.kd = 3) := hk
  obtain ⟨vL, hvL⟩ : ∃ x, Value.slice aL m.rk.2.1.length cL = x := ⟨_, rfl⟩
  obtain ⟨vJ, hvJ⟩ : ∃ x, Value.slice aJ m.rk.2.2.1.length cJ = x := ⟨_, rfl⟩
  obtain ⟨vI, hvI⟩ : ∃ x, Value.slice aI m.rk.2.2.2.length cI = x := ⟨_, rfl⟩
  rw [hvL, hvJ, hvI] at hM
  have HVV : Hid (Value.slice aL m.rk.2.1.length cL = vL ∧ Value.slice aJ m.rk.2.2.1.length cJ = vJ ∧ Value.slice aI m.rk.2.2.2.length cI = vI) := ⟨hvL, hvJ, hvI⟩
  have HCT : Hid (mgv m aL aJ aI cL cJ cI = mgl m vL vJ vI) := by unfold Hid mgv; rw [hvL, hvJ, hvI]
  clear hvL hvJ hvI hr hg
  obtain ⟨ct, hct⟩ : ∃ c, (mgv m aL aJ aI cL cJ cI) = c := ⟨_, rfl⟩
  have HS : Hid ((Tryz.prog.info? 38).map (·.size) = some ct.length) := by unfold Hid; rw [← hct]; exact szMg
  rw [hct] at hM hb1 h2 HCT
  rw [hct]
  clear hct
  go_enter Tryz.func9, Tryz.ntmps9
  go_upto_region 1 with (fail)
  have HA : Hid (_ < _) := (Array.getElem?_eq_some_iff.1 hM).1
  have HRA : Hid ((w.alloc (.cells ct.toArray 38)).rangeAt w.heap.size 0 ct) := MB.all (MB.new w ct)
  generalize w.alloc (.cells ct.toArray 38) = w1 at *
  obtain ⟨A, hAe⟩ : ∃ A, w.heap.size = A := ⟨_, rfl⟩
  rw [hAe] at hM HRA HA ⊢
  clear hAe
  have HM1 : Hid (MgAt w1 A m vL vJ vI) := hM
  have HB1 : Hid (Below w.heap.size w w1) := hb1
  clear hM hb1
  go_wp2_with (refine ldM HRA.out Tryz.underlying38 rfl HS.out _ rfl rfl rfl ?_)
  refine h2.mono ?_
  rintro e w0 ⟨rfl, hb2⟩
  have HB0 : Hid (Below w.heap.size w w0) := Below.join HB1.out hb2
  have HM0 : Hid (MgAt w0 A m vL vJ vI) := HM1.out.later hb2
  clear h2 hb2 HM1 HB1 HRA HA HS HCT
  have ck := HM0.out.kind
  rw [HK.out] at ck
  have hG0 : GR w0 w0 (.slice none 0 0) (.slice none 0 0) [] := GR.refl (World.ownsRow_nil _ _ _ _)
  have hq := putG 2 2 ⟨by omega, by omega⟩ hG0 (by simp)
  clear hG0
  go_wp2_with fail
  refine hq.mono ?_
  rintro e w2 ⟨v0, rfl, g2⟩
  have HG0 : Hid (GR w0 w2 (.slice none 0 0) v0 ([] ++ [((2 : Int).toNat, 2)])) := g2
  have hM2 := HM0.out.later g2.below
  clear hq g2 ck
  have ck := hM2.kind
  rw [HK.out] at ck
  have HQ : Hid ((nn m.rp.1.1 ∧ nn m.rp.1.2) ∧ nn m.rp.2.1 ∧ ((nn m.rp.2.2.1.1.1 ∧ nn m.rp.2.2.1.1.2) ∧ (nn m.rp.2.2.1.2.1 ∧ nn m.rp.2.2.1.2.2)) ∧ ((nn m.rp.2.2.2.1.1.1 ∧ nn m.rp.2.2.2.1.1.2) ∧ (nn m.rp.2.2.2.1.2.1 ∧ nn m.rp.2.2.2.1.2.2)) ∧ ((nn m.rp.2.2.2.2.1.1 ∧ nn m.rp.2.2.2.2.1.2) ∧ (nn m.rp.2.2.2.2.2.1 ∧ nn m.rp.2.2.2.2.2.2))) := by
    rcases gM_cases HGM.out with ⟨a, e⟩ | ⟨a, e⟩ | ⟨a, e⟩ | ⟨a, e⟩
    · have := HK.out; rw [e] at this; simp [mR, mQ, mP, mD] at this
    · have := HK.out; rw [e] at this; simp [mR, mQ, mP, mD] at this
    · simp only [gP, Bool.and_eq_true] at a
      exact ⟨nn_S a.1, nn_E a.2.1, nn_gB a.2.2.1, nn_gB a.2.2.2.1, nn_gB a.2.2.2.2⟩
    · have := HK.out; rw [e] at this; simp [mR, mQ, mP, mD] at this
  go_upto_region 17 with (fail)
  have HGd : Hid (GR w0 w2.drew (.slice none 0 0) v0 ([] ++ [((2 : Int).toNat, 2)])) := HG0.out.later (drew_below w2)
  have hq0 := putG m.rp.1.1 8 HQ.out.1.1 HGd.out (by simp)
  refine wp_region_held_drew (S := fun W => MgAt W A m vL vJ vI) (by kernel_rfl) (HM0.out.later HGd.out.below) (fun hHeld => ?_)
  refine wpAnyH_take (i := 0) (oi := { dst := some 74, op := Op.move (Operand.tmp 4), type := _, pos := _, after := _, guard := none }) (v := v0) rfl (by kernel_rfl) (by kernel_rfl) (by kernel_rfl) (fun _ _ _ h => h) (Or.inl ⟨by rfl, fun w hSw => by (try dsimp only at hSw); go_simp⟩) (by assumption) ?_
  simp only [Act.put, List.setIfInBounds_toArray, List.set_cons_zero, List.set_cons_succ]
  refine wpAnyH_take (i := 1) (oi := { dst := some 75, op := Op.fieldAddr 38 (Operand.tmp 1) 3, type := _, pos := _, after := _, guard := none }) (v := .pointer (some ⟨A, 7, none⟩)) rfl (by kernel_rfl) (by kernel_rfl) (by kernel_rfl) (fun _ _ _ h => h) (Or.inl ⟨by rfl, fun w hSw => by (try dsimp only at hSw); go_simp⟩) (by assumption) ?_
  simp only [Act.put, List.setIfInBounds_toArray, List.set_cons_zero, List.set_cons_succ]
  refine wpAnyH_take (i := 2) (oi := { dst := some 76, op := Op.fieldAddr 34 (Operand.tmp 75) 0, type := _, pos := _, after := _, guard := none }) (v := .pointer (some ⟨A, 7, none⟩)) rfl (by kernel_rfl) (by kernel_rfl) (by kernel_rfl) (fun _ _ _ h => h) (Or.inl ⟨by rfl, fun w hSw => by (try dsimp only at hSw); go_simp⟩) (by assumption) ?_
  simp only [Act.put, List.setIfInBounds_toArray, List.set_cons_zero, List.set_cons_succ]
  refine wpAnyH_take (i := 3) (oi := { dst := some 77, op := Op.load 3 (Operand.tmp 76), type := _, pos := _, after := _, guard := none }) (v := .int .i64 m.rp.1.1) rfl (by kernel_rfl) (by kernel_rfl) (by kernel_rfl) (fun _ _ _ h => h) (Or.inl ⟨by rfl, fun w hSw => by have z := MgAt.cell hSw 7 _ rfl; clear hSw; go_simp⟩) (by assumption) ?_
  simp only [Act.put, List.setIfInBounds_toArray, List.set_cons_zero, List.set_cons_succ]
  refine wpAnyH_take (i := 5) (oi := { dst := some 79, op := Op.fieldAddr 38 (Operand.tmp 1) 3, type := _, pos := _, after := _, guard := none }) (v := .pointer (some ⟨A, 7, none⟩)) rfl (by kernel_rfl) (by kernel_rfl) (by kernel_rfl) (fun _ _ _ h => h) (Or.inl ⟨by rfl, fun w hSw => by (try dsimp only at hSw); go_simp⟩) (by assumption) ?_
  simp only [Act.put, List.setIfInBounds_toArray, List.set_cons_zero, List.set_cons_succ]
  refine wpAnyH_take (i := 6) (oi := { dst := some 80, op := Op.fieldAddr 34 (Operand.tmp 79) 1, type := _, pos := _, after := _, guard := none }) (v := .pointer (some ⟨A, 8, none⟩)) rfl (by kernel_rfl) (by kernel_rfl) (by kernel_rfl) (fun _ _ _ h => h) (Or.inl ⟨by rfl, fun w hSw => by (try dsimp only at hSw); go_simp⟩) (by assumption) ?_
  simp only [Act.put, List.setIfInBounds_toArray, List.set_cons_zero, List.set_cons_succ]
  refine wpAnyH_take (i := 7) (oi := { dst := some 81, op := Op.load 3 (Operand.tmp 80), type := _, pos := _, after := _, guard := none }) (v := .int .i64 m.rp.1.2) rfl (by kernel_rfl) (by kernel_rfl) (by kernel_rfl) (fun _ _ _ h => h) (Or.inl ⟨by rfl, fun w hSw => by have z := MgAt.cell hSw 8 _ rfl; clear hSw; go_simp⟩) (by assumption) ?_
  simp only [Act.put, List.setIfInBounds_toArray, List.set_cons_zero, List.set_cons_succ]
  refine wpAnyH_take (i := 9) (oi := { dst := some 83, op := Op.fieldAddr 38 (Operand.tmp 1) 3, type := _, pos := _, after := _, guard := none }) (v := .pointer (some ⟨A, 7, none⟩)) rfl (by kernel_rfl) (by kernel_rfl) (by kernel_rfl) (fun _ _ _ h => h) (Or.inl ⟨by rfl, fun w hSw => by (try dsimp only at hSw); go_simp⟩) (by assumption) ?_
  simp only [Act.put, List.setIfInBounds_toArray, List.set_cons_zero, List.set_cons_succ]
  refine wpAnyH_take (i := 10) (oi := { dst := some 84, op := Op.fieldAddr 34 (Operand.tmp 83) 2, type := _, pos := _, after := _, guard := none }) (v := .pointer (some ⟨A, 9, none⟩)) rfl (by kernel_rfl) (by kernel_rfl) (by kernel_rfl) (fun _ _ _ h => h) (Or.inl ⟨by rfl, fun w hSw => by (try dsimp only at hSw); go_simp⟩) (by assumption) ?_
  simp only [Act.put, List.setIfInBounds_toArray, List.set_cons_zero, List.set_cons_succ]
  refine wpAnyH_take (i := 11) (oi := { dst := some 85, op := Op.load 3 (Operand.tmp 84), type := _, pos := _, after := _, guard := none }) (v := .int .i64 m.rp.2.1) rfl (by kernel_rfl) (by kernel_rfl) (by kernel_rfl) (fun _ _ _ h => h) (Or.inl ⟨by rfl, fun w hSw => by have z := MgAt.cell hSw 9 _ rfl; clear hSw; go_simp⟩) (by assumption) ?_
  simp only [Act.put, List.setIfInBounds_toArray, List.set_cons_zero, List.set_cons_succ]
  refine wpAnyH_ready (rs := [4]) (by kernel_rfl) (by simp) ?_
  refine AllReadyH.cons rfl (fun K hK => ?_) AllReadyH.nil
  go_simp
  refine hq0.mono ?_
  rintro e x1 ⟨v1, rfl, g2⟩
  have HG1 : Hid (GR w0 x1 (.slice none 0 0) v1 ([] ++ [((2 : Int).toNat, 2)] ++ [(m.rp.1.1.toNat, 8)])) := g2
  have hS1 := HM0.out.later g2.below
  clear hq0 g2
  have hq1 := putG m.rp.1.2 6 HQ.out.1.2 HG1.out (by simp)
  go_wp2_with fail
  refine hK.out _ _ hS1 (fun hHeld2 => ?_)
  clear hHeld hS1
  clear hK K
  try simp only [Act.put, List.setIfInBounds_toArray, List.set_cons_zero, List.set_cons_succ]
  refine wpAnyH_ready (rs := [8]) (by kernel_rfl) (by simp) ?_
  refine AllReadyH.cons rfl (fun K hK => ?_) AllReadyH.nil
  go_simp
  refine hq1.mono ?_
  rintro e x2 ⟨v2, rfl, g2⟩
  have HG2 : Hid (GR w0 x2 (.slice none 0 0) v2 ([] ++ [((2 : Int).toNat, 2)] ++ [(m.rp.1.1.toNat, 8)] ++ [(m.rp.1.2.toNat, 6)])) := g2
  have hS2 := HM0.out.later g2.below
  clear hq1 g2
  have hq2 := putG m.rp.2.1 8 HQ.out.2.1 HG2.out (by simp)
  go_wp2_with fail
  refine hK.out _ _ hS2 (fun hHeld3 => ?_)
  clear hHeld2 hS2
  clear hK K
  try simp only [Act.put, List.setIfInBounds_toArray, List.set_cons_zero, List.set_cons_succ]
  refine wpAnyH_ready (rs := [12]) (by kernel_rfl) (by simp) ?_
  refine AllReadyH.cons rfl (fun K hK => ?_) AllReadyH.nil
  go_simp
  refine hq2.mono ?_
  rintro e x3 ⟨v3, rfl, g2⟩
  have HG3 : Hid (GR w0 x3 (.slice none 0 0) v3 ([] ++ [((2 : Int).toNat, 2)] ++ [(m.rp.1.1.toNat, 8)] ++ [(m.rp.1.2.toNat, 6)] ++ [(m.rp.2.1.toNat, 8)])) := g2
  have hS3 := HM0.out.later g2.below
  clear hq2 g2
  go_wp2_with fail
  refine hK.out _ _ hS3 (fun hHeld4 => ?_)
  clear hHeld3 hS3
  clear hK K
  try simp only [Act.put, List.setIfInBounds_toArray, List.set_cons_zero, List.set_cons_succ]
  refine wpAnyH_take (i := 13) (oi := { dst := some 4, op := Op.assign (Operand.tmp 86), type := _, pos := _, after := _, guard := none }) (v := v3) rfl (by kernel_rfl) (by kernel_rfl) (by kernel_rfl) (fun _ _ _ h => h) (Or.inl ⟨by rfl, fun w hSw => by (try dsimp only at hSw); go_simp⟩) (by assumption) ?_
  simp only [Act.put, List.setIfInBounds_toArray, List.set_cons_zero, List.set_cons_succ]
  refine wpAnyH_done (by kernel_rfl) ?_ _
  clear HG1 HG2 HGd HG0 hM2 ck
  go_wp2_with fail
  refine wp_loop_rounds 4 ?_
  rw [rounds_succ]
  have HRb : Hid (x3.rangeAt A 10 (bxl m.rp.2.2.1)) := ra_of (HM0.out.later HG3.out.below) 10 _ rfl
  have hq := putBG m.rp.2.2.1.1.1 m.rp.2.2.1.1.2 m.rp.2.2.1.2.1 m.rp.2.2.1.2.2 HQ.out.2.2.1.1 HQ.out.2.2.1.2 HG3.out (by simp [fB, fK])
  go_wp2_with (refine ldM HRb.out Tryz.underlying31 rfl szBox _ rfl rfl rfl ?_)
  refine hq.mono ?_
  rintro e y0 ⟨z0, rfl, g2⟩
  have HY0 : Hid (GR w0 y0 (.slice none 0 0) z0 ([] ++ [((2 : Int).toNat, 2)] ++ [(m.rp.1.1.toNat, 8)] ++ [(m.rp.1.2.toNat, 6)] ++ [(m.rp.2.1.toNat, 8)] ++ fB ((m.rp.2.2.1.1.1, m.rp.2.2.1.1.2), (m.rp.2.2.1.2.1, m.rp.2.2.1.2.2)))) := g2
  clear hq g2 HRb HG3
  go_wp2_with fail
  rw [rounds_succ]
  have HRb : Hid (y0.rangeAt A 14 (bxl m.rp.2.2.2.1)) := ra_of (HM0.out.later HY0.out.below) 14 _ rfl
  have hq := putBG m.rp.2.2.2.1.1.1 m.rp.2.2.2.1.1.2 m.rp.2.2.2.1.2.1 m.rp.2.2.2.1.2.2 HQ.out.2.2.2.1.1 HQ.out.2.2.2.1.2 HY0.out (by simp [fB, fK])
  go_wp2_with (refine ldM HRb.out Tryz.underlying31 rfl szBox _ rfl rfl rfl ?_)
  refine hq.mono ?_
  rintro e y1 ⟨z1, rfl, g2⟩
  have HY1 : Hid (GR w0 y1 (.slice none 0 0) z1 ([] ++ [((2 : Int).toNat, 2)] ++ [(m.rp.1.1.toNat, 8)] ++ [(m.rp.1.2.toNat, 6)] ++ [(m.rp.2.1.toNat, 8)] ++ fB ((m.rp.2.2.1.1.1, m.rp.2.2.1.1.2), (m.rp.2.2.1.2.1, m.rp.2.2.1.2.2)) ++ fB ((m.rp.2.2.2.1.1.1, m.rp.2.2.2.1.1.2), (m.rp.2.2.2.1.2.1, m.rp.2.2.2.1.2.2)))) := g2
  clear hq g2 HRb HY0
  go_wp2_with fail
  rw [rounds_succ]
  have HRb : Hid (y1.rangeAt A 18 (bxl m.rp.2.2.2.2)) := ra_of (HM0.out.later HY1.out.below) 18 _ rfl
  have hq := putBG m.rp.2.2.2.2.1.1 m.rp.2.2.2.2.1.2 m.rp.2.2.2.2.2.1 m.rp.2.2.2.2.2.2 HQ.out.2.2.2.2.1 HQ.out.2.2.2.2.2 HY1.out (by simp [fB, fK])
  go_wp2_with (refine ldM HRb.out Tryz.underlying31 rfl szBox _ rfl rfl rfl ?_)
  refine hq.mono ?_
  rintro e y2 ⟨z2, rfl, g2⟩
  have HY2 : Hid (GR w0 y2 (.slice none 0 0) z2 ([] ++ [((2 : Int).toNat, 2)] ++ [(m.rp.1.1.toNat, 8)] ++ [(m.rp.1.2.toNat, 6)] ++ [(m.rp.2.1.toNat, 8)] ++ fB ((m.rp.2.2.1.1.1, m.rp.2.2.1.1.2), (m.rp.2.2.1.2.1, m.rp.2.2.1.2.2)) ++ fB ((m.rp.2.2.2.1.1.1, m.rp.2.2.2.1.1.2), (m.rp.2.2.2.1.2.1, m.rp.2.2.2.1.2.2)) ++ fB ((m.rp.2.2.2.2.1.1, m.rp.2.2.2.2.1.2), (m.rp.2.2.2.2.2.1, m.rp.2.2.2.2.2.2)))) := g2
  clear hq g2 HRb HY1
  go_wp2_with fail
  rw [rounds_succ]
  have HGE : Hid (GR w0 y2 (.slice none 0 0) z2 ([] ++ [((2 : Int).toNat, 2)] ++ [(m.rp.1.1.toNat, 8)] ++ [(m.rp.1.2.toNat, 6)] ++ [(m.rp.2.1.toNat, 8)] ++ fB ((m.rp.2.2.1.1.1, m.rp.2.2.1.1.2), (m.rp.2.2.1.2.1, m.rp.2.2.1.2.2)) ++ fB ((m.rp.2.2.2.1.1.1, m.rp.2.2.2.1.1.2), (m.rp.2.2.2.1.2.1, m.rp.2.2.2.1.2.2)) ++ fB ((m.rp.2.2.2.2.1.1, m.rp.2.2.2.2.1.2), (m.rp.2.2.2.2.2.1, m.rp.2.2.2.2.2.2)))) := HY2.out
  obtain ⟨aF, cF, hvF⟩ := owns_slice HGE.out.row
  have HF : Hid (([] ++ [((2 : Int).toNat, 2)] ++ [(m.rp.1.1.toNat, 8)] ++ [(m.rp.1.2.toNat, 6)] ++ [(m.rp.2.1.toNat, 8)] ++ fB ((m.rp.2.2.1.1.1, m.rp.2.2.1.1.2), (m.rp.2.2.1.2.1, m.rp.2.2.1.2.2)) ++ fB ((m.rp.2.2.2.1.1.1, m.rp.2.2.2.1.1.2), (m.rp.2.2.2.1.2.1, m.rp.2.2.2.1.2.2)) ++ fB ((m.rp.2.2.2.2.1.1, m.rp.2.2.2.2.1.2), (m.rp.2.2.2.2.2.1, m.rp.2.2.2.2.2.2))) = fM m) := by
    unfold Hid fM
    rw [HK.out]
    simp [fR, fQ, fP, fD, fX, fS]
  rw [HF.out] at HGE hvF
  subst hvF
  have hp := rPack_of HGM.out HGE.out
  go_wp2_with fail
  refine hp.mono ?_
  rintro e wz ⟨rfl, hbz⟩
  have HBz : Hid (Below w.heap.size w wz) := Below.join (Below.join HB0.out HGE.out.below) hbz
  clear hp hbz
  go_wp2_with fail
  go_ret2
  exact ⟨rfl, HBz.out⟩
end Go.Proofs.YtdkfifnhmfbagaaGreat.Wi
/- Contract of the document's answer: Encode, at a sealed text. -/
namespace Go.Proofs.YtdkfifnhmfbagaaGreat.Wi
open Go.RowKit Go.Maps
open Bt (Kept tb bys RdF pkS pkE okF)
set_option linter.unusedVariables false
set_option linter.unusedSimpArgs false

set_option maxRecDepth 100000 in
set_option maxHeartbeats 2000000 in
theorem rEnc_4 (m : Msg) (aL aJ aI : Option Addr) (cL cJ cI : Nat) (w : World) (hr : MR w m aL aJ aI) (hg : gM m = true) (hk : m.kd = 4) :
    Calls Tryz.prog 9 #[.agg (mgv m aL aJ aI cL cJ cI).toArray] w fun e w' => e = .returned (.tuple #[.string (enS m), .int .i64 0]) ∧ Below w.heap.size w w' := by
  have hb1 := below_alloc w (.cells (mgv m aL aJ aI cL cJ cI).toArray 38)
  have h2 := rGood_any m aL aJ aI cL cJ cI _ (hr.later hb1)
  rw [hg] at h2
  have hM : MgAt _ w.heap.size m (.slice aL m.rk.2.1.length cL) (.slice aJ m.rk.2.2.1.length cJ) (.slice aI m.rk.2.2.2.length cI) := heap_alloc_last w (.cells (mgv m aL aJ aI cL cJ cI).toArray 38)
  have HGM : Hid (gM m = true) := hg
  have HR : Hid (MR w m aL aJ aI) := hr
  have HK : Hid (m.kd = 4) := hk
  obtain ⟨vL, hvL⟩ : ∃ x, Value.slice aL m.rk.2.1.length cL = x := ⟨_, rfl⟩
  obtain ⟨vJ, hvJ⟩ : ∃ x, Value.slice aJ m.rk.2.2.1.length cJ = x := ⟨_, rfl⟩
  obtain ⟨vI, hvI⟩ : ∃ x, Value.slice aI m.rk.2.2.2.length cI = x := ⟨_, rfl⟩
  rw [hvL, hvJ, hvI] at hM
  have HVV : Hid (Value.slice aL m.rk.2.1.length cL = vL ∧ Value.slice aJ m.rk.2.2.1.length cJ = vJ ∧ Value.slice aI m.rk.2.2.2.length cI = vI) := ⟨hvL, hvJ, hvI⟩
  have HCT : Hid (mgv m aL aJ aI cL cJ cI = mgl m vL vJ vI) := by unfold Hid mgv; rw [hvL, hvJ, hvI]
  clear hvL hvJ hvI hr hg
  obtain ⟨ct, hct⟩ : ∃ c, (mgv m aL aJ aI cL cJ cI) = c := ⟨_, rfl⟩
  have HS : Hid ((Tryz.prog.info? 38).map (·.size) = some ct.length) := by unfold Hid; rw [← hct]; exact szMg
  rw [hct] at hM hb1 h2 HCT
  rw [hct]
  clear hct
  go_enter Tryz.func9, Tryz.ntmps9
  go_upto_region 1 with (fail)
  have HA : Hid (_ < _) := (Array.getElem?_eq_some_iff.1 hM).1
  have HRA : Hid ((w.alloc (.cells ct.toArray 38)).rangeAt w.heap.size 0 ct) := MB.all (MB.new w ct)
  generalize w.alloc (.cells ct.toArray 38) = w1 at *
  obtain ⟨A, hAe⟩ : ∃ A, w.heap.size = A := ⟨_, rfl⟩
  rw [hAe] at hM HRA HA ⊢
  clear hAe
  have HM1 : Hid (MgAt w1 A m vL vJ vI) := hM
  have HB1 : Hid (Below w.heap.size w w1) := hb1
  clear hM hb1
  go_wp2_with (refine ldM HRA.out Tryz.underlying38 rfl HS.out _ rfl rfl rfl ?_)
  refine h2.mono ?_
  rintro e w0 ⟨rfl, hb2⟩
  have HB0 : Hid (Below w.heap.size w w0) := Below.join HB1.out hb2
  have HM0 : Hid (MgAt w0 A m vL vJ vI) := HM1.out.later hb2
  clear h2 hb2 HM1 HB1 HRA HA HS HCT
  have ck := HM0.out.kind
  rw [HK.out] at ck
  have hG0 : GR w0 w0 (.slice none 0 0) (.slice none 0 0) [] := GR.refl (World.ownsRow_nil _ _ _ _)
  have hq := putG 3 2 ⟨by omega, by omega⟩ hG0 (by simp)
  clear hG0
  go_wp2_with fail
  refine hq.mono ?_
  rintro e w2 ⟨v0, rfl, g2⟩
  have HG0 : Hid (GR w0 w2 (.slice none 0 0) v0 ([] ++ [((3 : Int).toNat, 2)])) := g2
  have hM2 := HM0.out.later g2.below
  clear hq g2 ck
  have ck := hM2.kind
  rw [HK.out] at ck
  have HQ : Hid (nn m.sd.1 ∧ (nn m.sd.2.1.1 ∧ nn m.sd.2.1.2) ∧ m.sd.2.2.size ≤ 64) := by
    rcases gM_cases HGM.out with ⟨a, e⟩ | ⟨a, e⟩ | ⟨a, e⟩ | ⟨a, e⟩
    · have := HK.out; rw [e] at this; simp [mR, mQ, mP, mD] at this
    · have := HK.out; rw [e] at this; simp [mR, mQ, mP, mD] at this
    · have := HK.out; rw [e] at this; simp [mR, mQ, mP, mD] at this
    · simp only [gD, Bool.and_eq_true, decide_eq_true_eq] at a
      exact ⟨nn_E a.1, nn_gd a.2.1, a.2.2⟩
  obtain ⟨s, hs⟩ : ∃ s, m.sd.2.2 = s := ⟨_, rfl⟩
  have HSS : Hid (m.sd.2.2 = s) := hs
  rw [hs] at HQ
  obtain ⟨z, hz⟩ : ∃ z, s.size = z := ⟨_, rfl⟩
  have HZ : Hid (s.size = z) := hz
  have hz64 : z ≤ 64 := by rw [← hz]; exact HQ.out.2.2
  clear hs
  go_upto_region 23 with (fail)
  have HGd : Hid (GR w0 w2.drew (.slice none 0 0) v0 ([] ++ [((3 : Int).toNat, 2)])) := HG0.out.later (drew_below w2)
  have hq0 := putG m.sd.1 8 HQ.out.1 HGd.out (by simp)
  refine wp_region_held_drew (S := fun W => MgAt W A m vL vJ vI) (by kernel_rfl) (HM0.out.later HGd.out.below) (fun hHeld => ?_)
  refine wpAnyH_take (i := 0) (oi := { dst := some 100, op := Op.move (Operand.tmp 4), type := _, pos := _, after := _, guard := none }) (v := v0) rfl (by kernel_rfl) (by kernel_rfl) (by kernel_rfl) (fun _ _ _ h => h) (Or.inl ⟨by rfl, fun w hSw => by (try dsimp only at hSw); go_simp⟩) (by assumption) ?_
  simp only [Act.put, List.setIfInBounds_toArray, List.set_cons_zero, List.set_cons_succ]
  refine wpAnyH_take (i := 1) (oi := { dst := some 101, op := Op.fieldAddr 38 (Operand.tmp 1) 4, type := _, pos := _, after := _, guard := none }) (v := .pointer (some ⟨A, 22, none⟩)) rfl (by kernel_rfl) (by kernel_rfl) (by kernel_rfl) (fun _ _ _ h => h) (Or.inl ⟨by rfl, fun w hSw => by (try dsimp only at hSw); go_simp⟩) (by assumption) ?_
  simp only [Act.put, List.setIfInBounds_toArray, List.set_cons_zero, List.set_cons_succ]
  refine wpAnyH_take (i := 2) (oi := { dst := some 102, op := Op.fieldAddr 36 (Operand.tmp 101) 0, type := _, pos := _, after := _, guard := none }) (v := .pointer (some ⟨A, 22, none⟩)) rfl (by kernel_rfl) (by kernel_rfl) (by kernel_rfl) (fun _ _ _ h => h) (Or.inl ⟨by rfl, fun w hSw => by (try dsimp only at hSw); go_simp⟩) (by assumption) ?_
  simp only [Act.put, List.setIfInBounds_toArray, List.set_cons_zero, List.set_cons_succ]
  refine wpAnyH_take (i := 3) (oi := { dst := some 103, op := Op.load 3 (Operand.tmp 102), type := _, pos := _, after := _, guard := none }) (v := .int .i64 m.sd.1) rfl (by kernel_rfl) (by kernel_rfl) (by kernel_rfl) (fun _ _ _ h => h) (Or.inl ⟨by rfl, fun w hSw => by have z := MgAt.cell hSw 22 _ rfl; clear hSw; go_simp⟩) (by assumption) ?_
  simp only [Act.put, List.setIfInBounds_toArray, List.set_cons_zero, List.set_cons_succ]
  refine wpAnyH_take (i := 5) (oi := { dst := some 105, op := Op.fieldAddr 38 (Operand.tmp 1) 4, type := _, pos := _, after := _, guard := none }) (v := .pointer (some ⟨A, 22, none⟩)) rfl (by kernel_rfl) (by kernel_rfl) (by kernel_rfl) (fun _ _ _ h => h) (Or.inl ⟨by rfl, fun w hSw => by (try dsimp only at hSw); go_simp⟩) (by assumption) ?_
  simp only [Act.put, List.setIfInBounds_toArray, List.set_cons_zero, List.set_cons_succ]
  refine wpAnyH_take (i := 6) (oi := { dst := some 106, op := Op.fieldAddr 36 (Operand.tmp 105) 1, type := _, pos := _, after := _, guard := none }) (v := .pointer (some ⟨A, 23, none⟩)) rfl (by kernel_rfl) (by kernel_rfl) (by kernel_rfl) (fun _ _ _ h => h) (Or.inl ⟨by rfl, fun w hSw => by (try dsimp only at hSw); go_simp⟩) (by assumption) ?_
  simp only [Act.put, List.setIfInBounds_toArray, List.set_cons_zero, List.set_cons_succ]
  refine wpAnyH_take (i := 7) (oi := { dst := some 107, op := Op.load 29 (Operand.tmp 106), type := _, pos := _, after := _, guard := none }) (v := .agg #[.int .i64 m.sd.2.1.1, .int .i64 m.sd.2.1.2]) rfl (by kernel_rfl) (by kernel_rfl) (by kernel_rfl) (fun _ _ _ h => h) (Or.inl ⟨by rfl, fun w hSw => by have z1 := MgAt.cell hSw 23 _ rfl; have z2 := MgAt.cell hSw 24 _ rfl; clear hSw; go_simp⟩) (by assumption) ?_
  simp only [Act.put, List.setIfInBounds_toArray, List.set_cons_zero, List.set_cons_succ]
  refine wpAnyH_take (i := 9) (oi := { dst := some 109, op := Op.fieldAddr 38 (Operand.tmp 1) 4, type := _, pos := _, after := _, guard := none }) (v := .pointer (some ⟨A, 22, none⟩)) rfl (by kernel_rfl) (by kernel_rfl) (by kernel_rfl) (fun _ _ _ h => h) (Or.inl ⟨by rfl, fun w hSw => by (try dsimp only at hSw); go_simp⟩) (by assumption) ?_
  simp only [Act.put, List.setIfInBounds_toArray, List.set_cons_zero, List.set_cons_succ]
  refine wpAnyH_take (i := 10) (oi := { dst := some 110, op := Op.fieldAddr 36 (Operand.tmp 109) 2, type := _, pos := _, after := _, guard := none }) (v := .pointer (some ⟨A, 25, none⟩)) rfl (by kernel_rfl) (by kernel_rfl) (by kernel_rfl) (fun _ _ _ h => h) (Or.inl ⟨by rfl, fun w hSw => by (try dsimp only at hSw); go_simp⟩) (by assumption) ?_
  simp only [Act.put, List.setIfInBounds_toArray, List.set_cons_zero, List.set_cons_succ]
  refine wpAnyH_take (i := 11) (oi := { dst := some 111, op := Op.load 9 (Operand.tmp 110), type := _, pos := _, after := _, guard := none }) (v := .string s) rfl (by kernel_rfl) (by kernel_rfl) (by kernel_rfl) (fun _ _ _ h => h) (Or.inl ⟨by rfl, fun w hSw => by have z1 := MgAt.cell hSw 25 _ rfl; rw [HSS.out] at z1; clear hSw; go_simp⟩) (by assumption) ?_
  simp only [Act.put, List.setIfInBounds_toArray, List.set_cons_zero, List.set_cons_succ]
  refine wpAnyH_take (i := 12) (oi := { dst := some 112, op := Op.call { callee := Callee.builtin Builtin.len, args := #[(Operand.tmp 111)], argTypes := #[9] }, type := _, pos := _, after := _, guard := none }) (v := .int .i64 (z : Int)) rfl (by kernel_rfl) (by kernel_rfl) (by kernel_rfl) (fun _ _ _ h => h) (Or.inl ⟨by rfl, fun w hSw => by (try dsimp only at hSw); go_simp⟩) (by assumption) ?_
  simp only [Act.put, List.setIfInBounds_toArray, List.set_cons_zero, List.set_cons_succ]
  refine wpAnyH_ready (rs := [4]) (by kernel_rfl) (by simp) ?_
  refine AllReadyH.cons rfl (fun K hK => ?_) AllReadyH.nil
  go_simp
  refine hq0.mono ?_
  rintro e x1 ⟨v1, rfl, g2⟩
  have HG1 : Hid (GR w0 x1 (.slice none 0 0) v1 ([] ++ [((3 : Int).toNat, 2)] ++ [(m.sd.1.toNat, 8)])) := g2
  have hS1 := HM0.out.later g2.below
  clear hq0 g2
  have hq1 := putKG m.sd.2.1.1 m.sd.2.1.2 HQ.out.2.1.1 HQ.out.2.1.2 HG1.out (by simp)
  go_wp2_with fail
  refine hK.out _ _ hS1 (fun hHeld2 => ?_)
  clear hHeld hS1
  clear hK K
  try simp only [Act.put, List.setIfInBounds_toArray, List.set_cons_zero, List.set_cons_succ]
  refine wpAnyH_ready (rs := [8]) (by kernel_rfl) (by simp) ?_
  refine AllReadyH.cons rfl (fun K hK => ?_) AllReadyH.nil
  go_simp
  refine hq1.mono ?_
  rintro e x2 ⟨v2, rfl, g2⟩
  have HG2 : Hid (GR w0 x2 (.slice none 0 0) v2 ([] ++ [((3 : Int).toNat, 2)] ++ [(m.sd.1.toNat, 8)] ++ fK (m.sd.2.1.1, m.sd.2.1.2))) := g2
  have hS2 := HM0.out.later g2.below
  clear hq1 g2
  have hq2 := putG (z : Int) 7 ⟨by omega, by omega⟩ HG2.out (by simp [fK])
  go_wp2_with fail
  refine hK.out _ _ hS2 (fun hHeld3 => ?_)
  clear hHeld2 hS2
  clear hK K
  try simp only [Act.put, List.setIfInBounds_toArray, List.set_cons_zero, List.set_cons_succ]
  refine wpAnyH_ready (rs := [13]) (by kernel_rfl) (by simp) ?_
  refine AllReadyH.cons rfl (fun K hK => ?_) AllReadyH.nil
  go_simp
  refine hq2.mono ?_
  rintro e x3 ⟨v3, rfl, g2⟩
  have HG3 : Hid (GR w0 x3 (.slice none 0 0) v3 ([] ++ [((3 : Int).toNat, 2)] ++ [(m.sd.1.toNat, 8)] ++ fK (m.sd.2.1.1, m.sd.2.1.2) ++ [((z : Int).toNat, 7)])) := g2
  have hS3 := HM0.out.later g2.below
  clear hq2 g2
  go_wp2_with fail
  refine hK.out _ _ hS3 (fun hHeld4 => ?_)
  clear hHeld3 hS3
  clear hK K
  try simp only [Act.put, List.setIfInBounds_toArray, List.set_cons_zero, List.set_cons_succ]
  refine wpAnyH_take (i := 14) (oi := { dst := some 4, op := Op.assign (Operand.tmp 113), type := _, pos := _, after := _, guard := none }) (v := v3) rfl (by kernel_rfl) (by kernel_rfl) (by kernel_rfl) (fun _ _ _ h => h) (Or.inl ⟨by rfl, fun w hSw => by (try dsimp only at hSw); go_simp⟩) (by assumption) ?_
  simp only [Act.put, List.setIfInBounds_toArray, List.set_cons_zero, List.set_cons_succ]
  refine wpAnyH_done (by kernel_rfl) ?_ _
  clear HG1 HG2 HGd HG0 hM2 ck
  go_wp2_with fail
  go_loopw [4, 8] (fun x i wr => ∃ k : Nat, k ≤ z ∧ i = .int .i64 (k : Int) ∧ GR w0 wr (.slice none 0 0) x ([] ++ [((3 : Int).toNat, 2)] ++ [(m.sd.1.toNat, 8)] ++ fK (m.sd.2.1.1, m.sd.2.1.2) ++ [((z : Int).toNat, 7)] ++ ((bys s).take k).map fun n => (n, (8 : Int)))) (fun _ i _ => z - (intOf i).toNat)
  case atStart => exact ⟨0, by omega, rfl, by simpa using HG3.out⟩
  case round =>
    obtain ⟨k, hk, rfl, hG⟩ := hrel
    obtain ⟨W0, rfl⟩ : ∃ W0, W0 = wr := ⟨_, rfl⟩
    have HG : Hid (GR w0 W0 (.slice none 0 0) u4 ([] ++ [((3 : Int).toNat, 2)] ++ [(m.sd.1.toNat, 8)] ++ fK (m.sd.2.1.1, m.sd.2.1.2) ++ [((z : Int).toNat, 7)] ++ ((bys s).take k).map fun n => (n, (8 : Int)))) := hG
    clear hG HG3
    have cs := MgAt.cell (HM0.out.later HG.out.below) 25 _ rfl
    rw [HSS.out] at cs
    by_cases hkz : k < z
    · have hts : k < s.size := by rw [hz]; exact hkz
      obtain ⟨y, hy⟩ : ∃ y, (s[k]'hts).toNat = y := ⟨_, rfl⟩
      have hy256 : y < 256 := by rw [← hy]; exact UInt8.toNat_lt _
      have HY : Hid ((bys s).take (k + 1) = (bys s).take k ++ [y]) := by
        have hlt : k < (bys s).length := by rw [Bt.bys_length]; exact hts
        have := Bt.take_snoc (bys s) k 0 hlt
        unfold Hid
        rw [this, ← hy, ← Bt.bys_get s k hts]
        simp [hlt]
      have i1 : (0 : Int) ≤ (k : Int) := by omega
      have i2 : (k : Int) < (z : Int) := by omega
      have hwy : IntKind.i64.wrap (y : Int) = (y : Int) := Bt.wrap_fit _ (by omega) (by omega)
      have hq := putG (y : Int) 8 ⟨by omega, by omega⟩ HG.out (by rw [List.length_append, List.length_map, List.length_take]; simp [fK]; omega)
      go_wp2_with fail
      refine hq.mono ?_
      rintro e w5 ⟨v5, rfl, g5⟩
      have HG5 : Hid (GR w0 w5 (.slice none 0 0) v5 _) := g5
      clear hq g5 cs hy
      go_wp2_with fail
      go_roundw
      case rel =>
        refine ⟨k + 1, by omega, by go_num, ?_⟩
        have h := HG5.out
        rw [HY.out]
        simpa using h
      case measure => simp [intOf]; omega
    · have hkz' : decide ((k : Int) < (z : Int)) = false := by simp; omega
      have et : (bys s).take k = bys s := List.take_of_length_le (by rw [Bt.bys_length, HZ.out]; omega)
      rw [et] at HG
      have HGE : Hid (GR w0 W0 (.slice none 0 0) u4 ([] ++ [((3 : Int).toNat, 2)] ++ [(m.sd.1.toNat, 8)] ++ fK (m.sd.2.1.1, m.sd.2.1.2) ++ [((z : Int).toNat, 7)] ++ (bys s).map fun n => (n, (8 : Int)))) := HG.out
      have HX : Hid (m.sd.2.2.size = z) := by unfold Hid; rw [HSS.out]; exact HZ.out
      obtain ⟨aF, cF, hvF⟩ := owns_slice HGE.out.row
      have HF : Hid (([] ++ [((3 : Int).toNat, 2)] ++ [(m.sd.1.toNat, 8)] ++ fK (m.sd.2.1.1, m.sd.2.1.2) ++ [((z : Int).toNat, 7)] ++ (bys s).map fun n => (n, (8 : Int))) = fM m) := by
        unfold Hid fM
        rw [HK.out]
        simp [fD, fX, HSS.out, HZ.out]
      rw [HF.out] at HGE hvF
      subst hvF
      have hp := rPack_of HGM.out HGE.out
      go_wp2_with fail
      refine hp.mono ?_
      rintro e wz ⟨rfl, hbz⟩
      have HBz : Hid (Below w.heap.size w wz) := Below.join (Below.join HB0.out HGE.out.below) hbz
      clear hp hbz
      go_wp2_with fail
      go_ret2
      exact ⟨rfl, HBz.out⟩
end Go.Proofs.YtdkfifnhmfbagaaGreat.Wi
