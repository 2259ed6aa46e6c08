/- For any state and any card: Kind, Restart and Group of the state, Seated of the card are the document's. No conditions. -/
import Derived.Test.YtnaiocdldghdeaaRows
import Derived.Test.YtnaiocdldghdeaaMbU
import Derived.Test.YtnaiocdldghdeaaOpJ
import Derived.OpenShut
import Derived.ChangeMaps5
namespace Go.Proofs.Ytnaiocdldghdeaa.memberKinds
open Go.ChangeShapes Go.WideShapes Go.ChangeAt Go.RowKit Go.Maps
open Go.Proofs.Ytnaiocdldghdeaa.Mb
open Rt (Ky KyAt)
open Wi (ldM ra_of)
set_option linter.unusedVariables false
set_option linter.unusedSimpArgs false

structure KW (w W : World) (B C : Nat) (m : Mb) (X S P : Int) (k : Ky) : Prop where
  mb : MA W B m
  cd : CdAt W C X S P k
  bel : Below w.heap.size w W
section
variable {w W W' : World} {B C : Nat} {m : Mb} {X S P : Int} {k : Ky}
theorem KW.later (h : KW w W B C m X S P k) (hb : Below W.heap.size W W') : KW w W' B C m X S P k := ⟨h.mb.later hb, row_later h.cd hb, h.bel.trans (hb.mono h.bel.size)⟩
theorem KW.new (w : World) (m : Mb) (X S P : Int) (k : Ky) : KW w ((w.alloc (.cells (mba m) 27)).alloc (.cells (ccs X S P k) 29)) w.heap.size (w.heap.size + 1) m X S P k := by
  have h1 := MA.new w m
  have hb1 := below_alloc w (.cells (mba m) 27)
  have e1 : (w.alloc (.cells (mba m) 27)).heap.size = w.heap.size + 1 := by rw [World.size_alloc]
  generalize w.alloc (.cells (mba m) 27) = w1 at *
  have h2 : CdAt (w1.alloc (.cells (ccs X S P k) 29)) w1.heap.size X S P k := heap_alloc_last w1 _
  have hb2 := below_alloc w1 (.cells (ccs X S P k) 29)
  rw [e1] at h2
  exact ⟨h1.later hb2, h2, Wi.Below.join hb1 hb2⟩
theorem KW.rng (h : KW w W B C m X S P k) : W.rangeAt C 0 [.int .i64 X, .int .i64 S, .int .i64 P, .int .i64 k.bas, .int .i64 k.stp] := ra_of h.cd 0 _ rfl
end
theorem szCard : (Try.prog.info? 29).map (·.size) = some 5 := by kernel_rfl
theorem sea2 (X S P : Int) (k : Ky) (h : seaE X S P k = 0) : knd (seaM X S P k) = 2 := by
  unfold seaE at h
  split at h
  · rename_i hg; exact sea_kind hg
  · cases h
set_option maxHeartbeats 4000000 in
set_option maxRecDepth 100000 in
theorem walk (m0 : Mb) (X1 S1 P1 : Int) (K1 : Ky) (w : World) :
    Calls Try.prog 3 #[.agg (mba m0), .agg (ccs X1 S1 P1 K1)] w fun e w' => e = .returned (.bool true) ∧ Below w.heap.size w w' := by
  have hS := KW.new w m0 X1 S1 P1 K1
  have hk1 := kind_any m0
  have hk2 := rKind_any m0
  have hg1 := group_any m0
  have hg2 := rGroup_any m0
  have hs1 := seated_any X1 S1 P1 K1
  have hs2 := rSeated_any X1 S1 P1 K1
  have hk3 := kind_any (seaM X1 S1 P1 K1)
  have hr1 := restart_any m0
  have hsk := sea2 X1 S1 P1 K1
  unfold GrpA at hg1 hg2
  unfold SeatA at hs1 hs2
  obtain ⟨kd, hkd⟩ : ∃ k, knd m0 = k := ⟨_, rfl⟩
  simp only [hkd] at hk1 hk2
  clear hkd
  obtain ⟨gk, hgk⟩ : ∃ k, grK m0 = k := ⟨_, rfl⟩
  obtain ⟨ge, hge⟩ : ∃ k, grE m0 = k := ⟨_, rfl⟩
  simp only [hgk, hge] at hg1 hg2
  clear hgk hge
  obtain ⟨sm, hsm⟩ : ∃ k, seaM X1 S1 P1 K1 = k := ⟨_, rfl⟩
  obtain ⟨se, hse⟩ : ∃ k, seaE X1 S1 P1 K1 = k := ⟨_, rfl⟩
  simp only [hsm, hse] at hs1 hs2 hsk hk3
  clear hsm hse
  obtain ⟨cs, hcs⟩ : ∃ c, mba sm = c := ⟨_, rfl⟩
  have HS : Hid (mba sm = cs) := hcs
  simp only [hcs] at hs1 hs2 hk3
  obtain ⟨cb, hcb⟩ : ∃ c, mba (bh0 m0) = c := ⟨_, rfl⟩
  have HBB : Hid (mba (bh0 m0) = cb) := hcb
  simp only [hcb] at hr1
  obtain ⟨cm, hcm⟩ : ∃ c, mba m0 = c := ⟨_, rfl⟩
  have HC : Hid (mba m0 = cm) := hcm
  rw [hcm] at hS
  simp only [hcm] at hk1 hk2 hg1 hg2 hr1
  rw [hcm]
  clear hcm hcs hcb
  have HSK : Hid (se = 0 → knd sm = 2) := hsk
  clear hsk
  unfold ccs at hS hs1 hs2
  have HG1 : Hid _ := hg1
  have HG2 : Hid _ := hg2
  have HS1 : Hid _ := hs1
  have HS2 : Hid _ := hs2
  have HK3 : Hid _ := hk3
  have HR1 : Hid _ := hr1
  clear hg1 hg2 hs1 hs2 hk3 hr1
  go_enter Try.func3, Try.ntmps3
  unfold ccs
  go_upto_region 1 with (fail)
  generalize (w.alloc (.cells cm 27)).alloc (.cells #[.int .i64 X1, .int .i64 S1, .int .i64 P1, .int .i64 K1.bas, .int .i64 K1.stp] 29) = w1 at *
  obtain ⟨C, hC⟩ : ∃ K, w.heap.size + 1 = K := ⟨_, rfl⟩
  obtain ⟨B, hB⟩ : ∃ K, w.heap.size = K := ⟨_, rfl⟩
  rw [hC, hB] at hS ⊢
  clear hC hB
  have hS0 : KW w w1.drew B C m0 X1 S1 P1 K1 := hS.later (drew_below _)
  clear hS
  refine wp_region_held_drew (S := fun W => KW w W B C m0 X1 S1 P1 K1) (by kernel_rfl) hS0 (fun hHeld => ?_)
  refine wpAnyH_ready (rs := [0]) (by kernel_rfl) (by simp) ?_
  refine AllReadyH.cons rfl (fun K hK => ?_) AllReadyH.nil
  go_simp
  refine (lives_any _).mono ?_
  rintro r w3 ⟨rfl, hb3⟩
  go_wp2_with fail
  refine hK.out _ _ (hHeld.later hb3) (fun hHeld2 => ?_)
  clear hHeld hb3
  clear hK K
  try simp only [Act.put, List.setIfInBounds_toArray, List.set_cons_zero, List.set_cons_succ]
  refine wpAnyH_take (i := 1) (oi := { dst := some 13, op := Op.unOp UnOp.not 4 (Operand.tmp 12), type := _, pos := _, after := _, guard := none }) (v := .bool false) rfl (by kernel_rfl) (by kernel_rfl) (by kernel_rfl) (fun _ _ _ h => h) (Or.inl ⟨by rfl, fun w hSw => by (try dsimp only at hSw); go_simp⟩) (by assumption) ?_
  simp only [Act.put, List.setIfInBounds_toArray, List.set_cons_zero, List.set_cons_succ]
  refine wpAnyH_take (i := 2) (oi := { dst := some 14, op := Op.move (Operand.tmp 13), type := _, pos := _, after := _, guard := none }) (v := .bool false) rfl (by kernel_rfl) (by kernel_rfl) (by kernel_rfl) (fun _ _ _ h => h) (Or.inl ⟨by rfl, fun w hSw => by (try dsimp only at hSw); go_simp⟩) (by assumption) ?_
  simp only [Act.put, List.setIfInBounds_toArray, List.set_cons_zero, List.set_cons_succ]
  refine wpAnyH_take (i := 3) (oi := { dst := some 15, op := Op.load 27 (Operand.tmp 2), type := _, pos := _, after := _, guard := some (2, false) }) (v := .agg cm) rfl (by kernel_rfl) (by kernel_rfl) (by kernel_rfl) (fun _ _ _ h => h) (Or.inl ⟨by rfl, fun w hSw => ldMb_exec hSw.mb HC.out rfl rfl⟩) (by assumption) ?_
  simp only [Act.put, List.setIfInBounds_toArray, List.set_cons_zero, List.set_cons_succ]
  refine wpAnyH_take (i := 5) (oi := { dst := some 17, op := Op.load 27 (Operand.tmp 2), type := _, pos := _, after := _, guard := some (2, false) }) (v := .agg cm) rfl (by kernel_rfl) (by kernel_rfl) (by kernel_rfl) (fun _ _ _ h => h) (Or.inl ⟨by rfl, fun w hSw => ldMb_exec hSw.mb HC.out rfl rfl⟩) (by assumption) ?_
  simp only [Act.put, List.setIfInBounds_toArray, List.set_cons_zero, List.set_cons_succ]
  refine wpAnyH_ready (rs := [4]) (by kernel_rfl) (by simp) ?_
  refine AllReadyH.cons rfl (fun K hK => ?_) AllReadyH.nil
  go_simp
  refine (hk1 _).mono ?_
  rintro r w4 ⟨rfl, hb4⟩
  go_wp2_with fail
  refine hK.out _ _ (hHeld2.later hb4) (fun hHeld3 => ?_)
  clear hHeld2 hb4
  clear hK K
  try simp only [Act.put, List.setIfInBounds_toArray, List.set_cons_zero, List.set_cons_succ]
  refine wpAnyH_ready (rs := [6]) (by kernel_rfl) (by simp) ?_
  refine AllReadyH.cons rfl (fun K hK => ?_) AllReadyH.nil
  go_simp
  refine (hk2 _).mono ?_
  rintro r w5 ⟨rfl, hb5⟩
  go_wp2_with fail
  refine hK.out _ _ (hHeld3.later hb5) (fun hHeld4 => ?_)
  clear hHeld3 hb5
  clear hK K
  try simp only [Act.put, List.setIfInBounds_toArray, List.set_cons_zero, List.set_cons_succ]
  refine wpAnyH_take (i := 7) (oi := { dst := some 19, op := Op.binOp BinOp.neq 3 (Operand.tmp 16) (Operand.tmp 18) 3, type := _, pos := _, after := _, guard := some (2, false) }) (v := .bool false) rfl (by kernel_rfl) (by kernel_rfl) (by kernel_rfl) (fun _ _ _ h => h) (Or.inl ⟨by rfl, fun w hSw => by (try dsimp only at hSw); go_simp⟩) (by assumption) ?_
  simp only [Act.put, List.setIfInBounds_toArray, List.set_cons_zero, List.set_cons_succ]
  refine wpAnyH_take (i := 8) (oi := { dst := some 20, op := Op.pick (Operand.tmp 14) (Operand.const (Value.bool true)) (Operand.tmp 19), type := _, pos := _, after := _, guard := none }) (v := .bool false) rfl (by kernel_rfl) (by kernel_rfl) (by kernel_rfl) (fun _ _ _ h => h) (Or.inl ⟨by rfl, fun w hSw => by (try dsimp only at hSw); go_simp⟩) (by assumption) ?_
  simp only [Act.put, List.setIfInBounds_toArray, List.set_cons_zero, List.set_cons_succ]
  refine wpAnyH_done (by kernel_rfl) ?_ _
  clear hk1 hk2
  go_wp2_with (refine ldMb hHeld4.mb HC.out _ rfl rfl rfl ?_)
  refine (HG1.out _).mono ?_
  rintro r w6 ⟨rfl, hb6⟩
  have hb6' := Wi.Below.join hb6 (below_alloc w6 (.cells #[.int .i64 gk.bas, .int .i64 gk.stp] 23))
  have hS6 := hHeld4.later hb6'
  have hY6 : KyAt (w6.alloc (.cells #[.int .i64 gk.bas, .int .i64 gk.stp] 23)) w6.heap.size gk := Rt.KyAt.new w6 gk
  clear hHeld4 hb6 hb6' HG1
  go_upto_region 4 with (fail)
  generalize w6.alloc (.cells #[.int .i64 gk.bas, .int .i64 gk.stp] 23) = w7 at *
  generalize w6.heap.size = Y1 at *
  go_wp2_with (refine ldMb hS6.mb HC.out _ rfl rfl rfl ?_)
  refine (HG2.out _).mono ?_
  rintro r w8 ⟨rfl, hb8⟩
  have hb8' := Wi.Below.join hb8 (below_alloc w8 (.cells #[.int .i64 gk.bas, .int .i64 gk.stp] 23))
  have hS8 := hS6.later hb8'
  have hY8 := hY6.later hb8'
  have hZ8 : KyAt (w8.alloc (.cells #[.int .i64 gk.bas, .int .i64 gk.stp] 23)) w8.heap.size gk := Rt.KyAt.new w8 gk
  clear hS6 hY6 hb8 hb8' HG2
  go_upto_region 5 with (fail)
  generalize w8.alloc (.cells #[.int .i64 gk.bas, .int .i64 gk.stp] 23) = w9 at *
  generalize w8.heap.size = Y2 at *
  obtain ⟨y0, y1⟩ := hY8.cells
  obtain ⟨z0, z1⟩ := hZ8.cells
  clear hY8 hZ8
  have HRG : Hid (w9.rangeAt C 0 [.int .i64 X1, .int .i64 S1, .int .i64 P1, .int .i64 K1.bas, .int .i64 K1.stp]) := hS8.rng
  go_upto_region 7 with (fail)
  clear y0 y1 z0 z1
  go_wp2_with (refine ldM HRG.out Try.underlying29 rfl szCard _ rfl rfl rfl ?_)
  refine (HS1.out _).mono ?_
  rintro r w10 ⟨rfl, hb10⟩
  have hb10' := Wi.Below.join hb10 (below_alloc w10 (.cells (mba sm) 27))
  have hS10 := hS8.later hb10'
  have hA10 := MA.new w10 sm
  rw [HS.out] at hS10 hA10
  clear hS8 hb10 hb10' HRG HS1
  go_upto_region 8 with (refine stMn (w := w10) HS.out rfl _ _ rfl rfl rfl ?_)
  generalize w10.alloc (.cells cs 27) = w11 at *
  generalize w10.heap.size = A1 at *
  have HRG : Hid (w11.rangeAt C 0 [.int .i64 X1, .int .i64 S1, .int .i64 P1, .int .i64 K1.bas, .int .i64 K1.stp]) := hS10.rng
  go_wp2_with (refine ldM HRG.out Try.underlying29 rfl szCard _ rfl rfl rfl ?_)
  refine (HS2.out _).mono ?_
  rintro r w12 ⟨rfl, hb12⟩
  have hb12' := Wi.Below.join hb12 (below_alloc w12 (.cells (mba sm) 27))
  have hS12 := hS10.later hb12'
  have hA12 := MA.new w12 sm
  have hA10b := hA10.later hb12'
  rw [HS.out] at hS12 hA12 hA10b
  clear hS10 hA10 hb12 hb12' HRG HS2
  go_upto_region 9 with (refine stMn (w := w12) HS.out rfl _ _ rfl rfl rfl ?_)
  generalize w12.alloc (.cells cs 27) = w13 at *
  generalize w12.heap.size = A2 at *
  have HEQ : Hid (mE sm sm = true) := mE_iff.2 rfl
  by_cases hse0 : se = 0
  · have q0 : (se == 0) = true := by simpa using hse0
    have hk3 := HK3.out
    rw [HSK.out hse0] at hk3
    clear hse0 HSK
    go_wp2_with (first | (refine ldMb hA10b HS.out _ rfl rfl rfl ?_) | (refine ldMb hA12 HS.out _ rfl rfl rfl ?_) | (refine neM HS.out HS.out HEQ.out _ _ rfl rfl rfl rfl ?_))
    refine (hk3 _).mono ?_
    rintro r w14 ⟨rfl, hb14⟩
    have hS14 := hS12.later hb14
    clear hS12 hA12 hA10b hb14 hk3 HK3
    go_upto_region 11 with (fail)
    have hS15 := hS14.later (below_alloc w14 (.cells (mba m0) 27))
    have hA15 := MA.new w14 m0
    have hge : w.heap.size ≤ w14.heap.size := hS14.bel.size
    have hlt : B < w14.heap.size := hS14.mb.lt
    have hltC : C < w14.heap.size := (Array.getElem?_eq_some_iff.1 hS14.cd).1
    rw [HC.out] at hS15 hA15
    have HMB : Hid (MA w14 B m0) := hS14.mb
    clear hS14
    go_upto_region 12 with (first | (refine ldMb HMB.out HC.out _ rfl rfl rfl ?_) | (refine stMn (w := w14) HC.out rfl _ _ rfl rfl rfl ?_))
    generalize w14.alloc (.cells cm 27) = w15 at *
    generalize w14.heap.size = A3 at *
    have HGE : Hid (w.heap.size ≤ A3) := hge
    have HLT : Hid (B < A3) := hlt
    have HLC : Hid (C < A3) := hltC
    have c0 := hA15.bh
    have f0 := hA15.fr 13
    clear hge hlt hltC HMB
    go_upto_region 13 with (fail)
    have hA16 : MA (w15.setCell ⟨A3, 13, none⟩ (.int .i64 0)) A3 (bh0 m0) := Rt.row_setCell hA15 13 (.int .i64 0)
    have hS16 : KW w (w15.setCell ⟨A3, 13, none⟩ (.int .i64 0)) B C m0 X1 S1 P1 K1 := ⟨(Rt.other_setCell (Nat.ne_of_lt HLT.out) _ _).trans hS15.mb, (Rt.other_setCell (Nat.ne_of_lt HLC.out) _ _).trans hS15.cd, hS15.bel.setCell (p := ⟨A3, 13, none⟩) HGE.out _⟩
    clear hS15 hA15 c0 f0
    generalize w15.setCell ⟨A3, 13, none⟩ (.int .i64 0) = w16 at *
    have HEB : Hid (mE (bh0 m0) (bh0 m0) = true) := mE_iff.2 rfl
    have hF0 : KW w w16.drew B C m0 X1 S1 P1 K1 ∧ MA w16.drew A3 (bh0 m0) := ⟨hS16.later (drew_below _), hA16.later (drew_below _)⟩
    clear hS16 hA16
    refine wp_region_held_drew (S := fun W => KW w W B C m0 X1 S1 P1 K1 ∧ MA W A3 (bh0 m0)) (by kernel_rfl) hF0 (fun hHeld => ?_)
    refine wpAnyH_take (i := 0) (oi := { dst := some 68, op := Op.load 27 (Operand.tmp 2), type := _, pos := _, after := _, guard := none }) (v := .agg cm) rfl (by kernel_rfl) (by kernel_rfl) (by kernel_rfl) (fun _ _ _ h => h) (Or.inl ⟨by rfl, fun w hSw => ldMb_exec hSw.1.mb HC.out rfl rfl⟩) (by assumption) ?_
    simp only [Act.put, List.setIfInBounds_toArray, List.set_cons_zero, List.set_cons_succ]
    refine wpAnyH_take (i := 2) (oi := { dst := some 70, op := Op.load 27 (Operand.tmp 11), type := _, pos := _, after := _, guard := none }) (v := .agg cb) rfl (by kernel_rfl) (by kernel_rfl) (by kernel_rfl) (fun _ _ _ h => h) (Or.inl ⟨by rfl, fun w hSw => ldMb_exec hSw.2 HBB.out rfl rfl⟩) (by assumption) ?_
    simp only [Act.put, List.setIfInBounds_toArray, List.set_cons_zero, List.set_cons_succ]
    refine wpAnyH_ready (rs := [1]) (by kernel_rfl) (by simp) ?_
    refine AllReadyH.cons rfl (fun K hK => ?_) AllReadyH.nil
    go_simp
    refine (HR1.out _).mono ?_
    rintro r w17 ⟨rfl, hb17⟩
    go_wp2_with fail
    refine hK.out _ _ ⟨hHeld.1.later hb17, hHeld.2.later hb17⟩ (fun hHeld2 => ?_)
    clear hHeld hb17
    clear hK K
    try simp only [Act.put, List.setIfInBounds_toArray, List.set_cons_zero, List.set_cons_succ]
    refine wpAnyH_take (i := 3) (oi := { dst := some 71, op := Op.binOp BinOp.eql 27 (Operand.tmp 69) (Operand.tmp 70) 27, type := _, pos := _, after := _, guard := none }) (v := .bool true) rfl (by kernel_rfl) (by kernel_rfl) (by kernel_rfl) (fun _ _ _ h => h) (Or.inl ⟨by rfl, fun w hSw => eqM_exec HBB.out HBB.out HEB.out rfl rfl rfl⟩) (by assumption) ?_
    simp only [Act.put, List.setIfInBounds_toArray, List.set_cons_zero, List.set_cons_succ]
    refine wpAnyH_take (i := 4) (oi := { dst := some 4, op := Op.assign (Operand.tmp 71), type := _, pos := _, after := _, guard := none }) (v := .bool true) rfl (by kernel_rfl) (by kernel_rfl) (by kernel_rfl) (fun _ _ _ h => h) (Or.inl ⟨by rfl, fun w hSw => by (try dsimp only at hSw); go_simp⟩) (by assumption) ?_
    simp only [Act.put, List.setIfInBounds_toArray, List.set_cons_zero, List.set_cons_succ]
    refine wpAnyH_done (by kernel_rfl) ?_ _
    go_wp2_with fail
    go_ret
    exact ⟨rfl, hHeld2.1.bel⟩
  · have q0 : (se == 0) = false := by simpa using hse0
    clear hse0 HSK HK3
    have hS14 := hS12
    clear hS12
    obtain ⟨w14, hw14⟩ : ∃ W, W = w13 := ⟨_, rfl⟩
    go_upto_region 11 with (first | (refine ldMb hA10b HS.out _ rfl rfl rfl ?_) | (refine ldMb hA12 HS.out _ rfl rfl rfl ?_) | (refine neM HS.out HS.out HEQ.out _ _ rfl rfl rfl rfl ?_))
    clear hA10b hA12
    rw [← hw14] at hS14 ⊢
    clear hw14
    have hS15 := hS14.later (below_alloc w14 (.cells (mba m0) 27))
    have hA15 := MA.new w14 m0
    have hge : w.heap.size ≤ w14.heap.size := hS14.bel.size
    have hlt : B < w14.heap.size := hS14.mb.lt
    have hltC : C < w14.heap.size := (Array.getElem?_eq_some_iff.1 hS14.cd).1
    rw [HC.out] at hS15 hA15
    have HMB : Hid (MA w14 B m0) := hS14.mb
    clear hS14
    go_upto_region 12 with (first | (refine ldMb HMB.out HC.out _ rfl rfl rfl ?_) | (refine stMn (w := w14) HC.out rfl _ _ rfl rfl rfl ?_))
    generalize w14.alloc (.cells cm 27) = w15 at *
    generalize w14.heap.size = A3 at *
    have HGE : Hid (w.heap.size ≤ A3) := hge
    have HLT : Hid (B < A3) := hlt
    have HLC : Hid (C < A3) := hltC
    have c0 := hA15.bh
    have f0 := hA15.fr 13
    clear hge hlt hltC HMB
    go_upto_region 13 with (fail)
    have hA16 : MA (w15.setCell ⟨A3, 13, none⟩ (.int .i64 0)) A3 (bh0 m0) := Rt.row_setCell hA15 13 (.int .i64 0)
    have hS16 : KW w (w15.setCell ⟨A3, 13, none⟩ (.int .i64 0)) B C m0 X1 S1 P1 K1 := ⟨(Rt.other_setCell (Nat.ne_of_lt HLT.out) _ _).trans hS15.mb, (Rt.other_setCell (Nat.ne_of_lt HLC.out) _ _).trans hS15.cd, hS15.bel.setCell (p := ⟨A3, 13, none⟩) HGE.out _⟩
    clear hS15 hA15 c0 f0
    generalize w15.setCell ⟨A3, 13, none⟩ (.int .i64 0) = w16 at *
    have HEB : Hid (mE (bh0 m0) (bh0 m0) = true) := mE_iff.2 rfl
    have hF0 : KW w w16.drew B C m0 X1 S1 P1 K1 ∧ MA w16.drew A3 (bh0 m0) := ⟨hS16.later (drew_below _), hA16.later (drew_below _)⟩
    clear hS16 hA16
    refine wp_region_held_drew (S := fun W => KW w W B C m0 X1 S1 P1 K1 ∧ MA W A3 (bh0 m0)) (by kernel_rfl) hF0 (fun hHeld => ?_)
    refine wpAnyH_take (i := 0) (oi := { dst := some 68, op := Op.load 27 (Operand.tmp 2), type := _, pos := _, after := _, guard := none }) (v := .agg cm) rfl (by kernel_rfl) (by kernel_rfl) (by kernel_rfl) (fun _ _ _ h => h) (Or.inl ⟨by rfl, fun w hSw => ldMb_exec hSw.1.mb HC.out rfl rfl⟩) (by assumption) ?_
    simp only [Act.put, List.setIfInBounds_toArray, List.set_cons_zero, List.set_cons_succ]
    refine wpAnyH_take (i := 2) (oi := { dst := some 70, op := Op.load 27 (Operand.tmp 11), type := _, pos := _, after := _, guard := none }) (v := .agg cb) rfl (by kernel_rfl) (by kernel_rfl) (by kernel_rfl) (fun _ _ _ h => h) (Or.inl ⟨by rfl, fun w hSw => ldMb_exec hSw.2 HBB.out rfl rfl⟩) (by assumption) ?_
    simp only [Act.put, List.setIfInBounds_toArray, List.set_cons_zero, List.set_cons_succ]
    refine wpAnyH_ready (rs := [1]) (by kernel_rfl) (by simp) ?_
    refine AllReadyH.cons rfl (fun K hK => ?_) AllReadyH.nil
    go_simp
    refine (HR1.out _).mono ?_
    rintro r w17 ⟨rfl, hb17⟩
    go_wp2_with fail
    refine hK.out _ _ ⟨hHeld.1.later hb17, hHeld.2.later hb17⟩ (fun hHeld2 => ?_)
    clear hHeld hb17
    clear hK K
    try simp only [Act.put, List.setIfInBounds_toArray, List.set_cons_zero, List.set_cons_succ]
    refine wpAnyH_take (i := 3) (oi := { dst := some 71, op := Op.binOp BinOp.eql 27 (Operand.tmp 69) (Operand.tmp 70) 27, type := _, pos := _, after := _, guard := none }) (v := .bool true) rfl (by kernel_rfl) (by kernel_rfl) (by kernel_rfl) (fun _ _ _ h => h) (Or.inl ⟨by rfl, fun w hSw => eqM_exec HBB.out HBB.out HEB.out rfl rfl rfl⟩) (by assumption) ?_
    simp only [Act.put, List.setIfInBounds_toArray, List.set_cons_zero, List.set_cons_succ]
    refine wpAnyH_take (i := 4) (oi := { dst := some 4, op := Op.assign (Operand.tmp 71), type := _, pos := _, after := _, guard := none }) (v := .bool true) rfl (by kernel_rfl) (by kernel_rfl) (by kernel_rfl) (fun _ _ _ h => h) (Or.inl ⟨by rfl, fun w hSw => by (try dsimp only at hSw); go_simp⟩) (by assumption) ?_
    simp only [Act.put, List.setIfInBounds_toArray, List.set_cons_zero, List.set_cons_succ]
    refine wpAnyH_done (by kernel_rfl) ?_ _
    go_wp2_with fail
    go_ret
    exact ⟨rfl, hHeld2.1.bel⟩
theorem own : ownKnob Try.prog.godebug = none := by kernel_rfl
theorem laidOut : laidOutB Try.prog = true := by kernel_rfl
set_option maxRecDepth 100000 in
theorem lifted (os : Os) (started : os.Started) (H : Type) (enc : TypeId × Value → H) :
    ReturnsInHanded {} Try.checked os 3 .any (Rows.memberKindsSpec.pre6 enc Try.prog Try.f3 Rows.memberKindsRow.domain false) (Rows.memberKindsSpec.post enc Try.prog Try.f3 false true false false) := by
  refine returnsInHanded_of_change (C := Try.checked) own started (by kernel_rfl) Try.func3
    (ChangeSpec.witness6 (enc := enc) (C := Try.checked) false ⟨#[], #[.agg #[.int .i64 0, .int .i64 0, .int .i64 0, .int .i64 0, .int .i64 0, .int .i64 0, .int .i64 0, .int .i64 0, .int .i64 0, .int .i64 0, .int .i64 0, .bool false, .bool false, .int .i64 0], .agg #[.int .i64 0, .int .i64 0, .int .i64 0, .int .i64 0, .int .i64 0]], []⟩ 8 (by kernel_rfl) (by kernel_rfl) (by kernel_rfl) (by kernel_rfl)) ?_
  intro W base args ds gs before hval0 hW hcnd _
  have hval : ∀ (j : Nat) t v, Try.f3.params[j]? = some t → args[j]? = some v → Value.okWide Try.prog W .any base t v := hval0
  have hW' := hW
  obtain ⟨p, q, hA0, hV, rfl, hfz, hnd⟩ := hW
  have hA : DataW.TrodAll enc Try.prog W 0 (fun _ => true) true Try.f3.params.toList args.toList ds p := hA0
  rw [Try.params3] at hA hval
  obtain ⟨v0, vs0, d0, ds0, p0, q0, hargs, rfl, rfl, h0, r0⟩ := trodAll_cons hA
  obtain ⟨v1, vs1, d1, ds1, p1, q1, rfl, rfl, rfl, h1, r1⟩ := trodAll_cons r0
  obtain ⟨rfl, rfl, rfl⟩ := trodAll_nil r1
  obtain rfl : args = #[v0, v1] := by cases args; simp_all
  obtain ⟨rfl, rfl⟩ := trodVars_none hV
  have k0 := h0
  have lt0 : ∀ x ∈ p0, x.block < W.heap.size := by obtain ⟨m, hm⟩ := k0; exact DataW.trod_lt m _ _ _ hm
  obtain ⟨m0, rfl⟩ := Mb.open_mb (hval 0 27 v0 rfl rfl) h0
  have k1 := h1
  have lt1 : ∀ x ∈ p1, x.block < W.heap.size := by obtain ⟨m, hm⟩ := k1; exact DataW.trod_lt m _ _ _ hm
  obtain ⟨X1, S1, P1, K1, rfl⟩ := Mb.open_cd (hval 1 29 v1 rfl rfl) h1
  clear hA0 hval0
  refine (walk m0 X1 S1 P1 K1 W).mono fun e W' ⟨he, bel⟩ => ?_
  subst he
  exact ⟨_, rfl, _, _, _, [], _, [], hW', trodAll_mk1 (shut_bool Try.underlying4 _), (trodAll_cons_mk (Below.trod laidOut (by kernel_rfl) (of_decide_eq_true (by kernel_rfl)) k0 bel lt0) (trodAll_cons_mk (Below.trod laidOut (by kernel_rfl) (of_decide_eq_true (by kernel_rfl)) k1 bel lt1) trodAll_mk0)), rfl, bel.frame _, fun h => by cases h⟩
theorem over : Rows.memberKindsRow.holds Try.pinned (OpenSpec.ofChange Rows.memberKindsSpec) :=
  OpenClaim.holds_of_wide 3 Try.f3 rfl rfl rfl rfl rfl rfl rfl ⟨rfl, rfl, rfl, rfl, rfl⟩ rfl rfl rfl rfl rfl (by kernel_rfl) Try.func3 (by kernel_rfl)
    (of_decide_eq_true (by kernel_rfl)) (by unfold Func.isWrapper; first | (rw [if_pos (by decide +kernel)]; kernel_rfl) | (rw [if_neg (by decide +kernel)]; exact ⟨rfl, rfl⟩))
    (fun os started H enc _ => lifted os started H enc)
end Go.Proofs.Ytnaiocdldghdeaa.memberKinds
namespace Go.Proofs.Ytnaiocdldghdeaa
theorem memberKinds_holds : Rows.MemberKindsSaid := memberKinds.over
#print axioms memberKinds_holds
end Go.Proofs.Ytnaiocdldghdeaa
