/- For any state: Needs and Ask are the document's. No conditions. -/
import Derived.Test.YtdghibimelhgjaaGreatRows
import Derived.Test.YtdghibimelhgjaaGreatRvI
import Derived.Test.YtdghibimelhgjaaGreatOpJ
import Derived.BigQuiet
import Derived.OpenShut
import Derived.ChangeMaps5
namespace Go.Proofs.YtdghibimelhgjaaGreat.recoveryAsks
open Go.ChangeShapes Go.WideShapes Go.ChangeAt Go.RowKit Go.Maps
open Go.Proofs.YtdghibimelhgjaaGreat.Mb Go.Proofs.YtdghibimelhgjaaGreat.Rv
open Rt (Ky KyAt)
open Wi (ldM ra_of)
set_option linter.unusedVariables false
set_option linter.unusedSimpArgs false

set_option maxHeartbeats 4000000 in
set_option maxRecDepth 100000 in
theorem walk (m0 : Mb) (w : World) :
    Calls Tryz.prog 3 #[.agg (mba m0)] w fun e w' => e = .returned (.bool true) ∧ Below w.heap.size w w' := by
  have hli := lives16_any
  have hn1 := needs_any m0
  have hn2 := rNeeds_any m0
  have ha1 := ask_any m0
  have ha2 := rAsk_any m0
  unfold AskA at ha1 ha2
  obtain ⟨nd, hnd⟩ : ∃ b, nds m0 = b := ⟨_, rfl⟩
  simp only [hnd] at hn1 hn2
  clear hnd
  obtain ⟨a, ha⟩ : ∃ b, akW m0 = b := ⟨_, rfl⟩
  obtain ⟨b, hb⟩ : ∃ b, akP m0 = b := ⟨_, rfl⟩
  obtain ⟨e, he⟩ : ∃ b, Rv.hsE m0 = b := ⟨_, rfl⟩
  simp only [ha, hb, he] at ha1 ha2
  clear ha hb he
  unfold rqa at ha1 ha2
  have hS := MA.new w m0
  have hB := below_alloc w (.cells (mba m0) 27)
  obtain ⟨cm, hcm⟩ : ∃ c, mba m0 = c := ⟨_, rfl⟩
  have HC : Hid (mba m0 = cm) := hcm
  rw [hcm] at hS hB
  simp only [hcm] at hn1 hn2 ha1 ha2
  rw [hcm]
  clear hcm
  have eqr := fun W => Wi.run_eqPr 31 (w := W) 9998 (a, b) (a, b) (.inr (.inr rfl))
  rw [decide_eq_true rfl] at eqr
  have HL : Hid _ := hli
  have HN1 : Hid _ := hn1
  have HN2 : Hid _ := hn2
  clear hli hn1 hn2
  go_enter Tryz.func3, Tryz.ntmps3
  go_upto_region 1 with (fail)
  generalize w.alloc (.cells cm 27) = w1 at *
  have HB : Hid (Below w.heap.size w w1) := hB
  clear hB
  obtain ⟨B, hBe⟩ : ∃ B, w.heap.size = B := ⟨_, rfl⟩
  rw [hBe] at hS ⊢
  clear hBe
  have hS0 : Below w.heap.size w w1.drew ∧ MA w1.drew B m0 := ⟨Wi.Below.join HB.out (drew_below _), hS.later (drew_below _)⟩
  clear hS HB
  refine wp_region_held_drew (S := fun W => Below w.heap.size w W ∧ MA W B m0) (by kernel_rfl) hS0 (fun hHeld => ?_)
  clear hS0
  generalize w1.drew = wd at *
  refine wpAnyH_ready (rs := [0]) (by kernel_rfl) (by simp) ?_
  refine AllReadyH.cons rfl (fun K hK => ?_) AllReadyH.nil
  go_simp
  refine (HL.out _).mono ?_
  rintro e w7 ⟨rfl, hb7⟩
  go_wp2_with fail
  refine hK.out _ _ ⟨Wi.Below.join hHeld.1 hb7, hHeld.2.later hb7⟩ (fun hHeld2 => ?_)
  clear hHeld hb7
  clear hK K
  try simp only [Act.put, List.setIfInBounds_toArray, List.set_cons_zero, List.set_cons_succ]
  refine wpAnyH_take (i := 1) (oi := { dst := some 8, op := Op.unOp UnOp.not 4 (Operand.tmp 7), type := _, pos := _, after := _, guard := none }) (v := .bool false) rfl (by kernel_rfl) (by kernel_rfl) (by kernel_rfl) (fun _ _ _ h => h) (Or.inl ⟨by rfl, fun w hSw => by (try dsimp only at hSw); go_simp⟩) (by assumption) ?_
  simp only [Act.put, List.setIfInBounds_toArray, List.set_cons_zero, List.set_cons_succ]
  refine wpAnyH_take (i := 2) (oi := { dst := some 9, op := Op.move (Operand.tmp 8), type := _, pos := _, after := _, guard := none }) (v := .bool false) rfl (by kernel_rfl) (by kernel_rfl) (by kernel_rfl) (fun _ _ _ h => h) (Or.inl ⟨by rfl, fun w hSw => by (try dsimp only at hSw); go_simp⟩) (by assumption) ?_
  simp only [Act.put, List.setIfInBounds_toArray, List.set_cons_zero, List.set_cons_succ]
  refine wpAnyH_take (i := 3) (oi := { dst := some 10, op := Op.load 27 (Operand.tmp 1), type := _, pos := _, after := _, guard := some (2, false) }) (v := .agg cm) rfl (by kernel_rfl) (by kernel_rfl) (by kernel_rfl) (fun _ _ _ h => h) (Or.inl ⟨by rfl, fun w hSw => ldMb_exec hSw.2 HC.out rfl rfl⟩) (by assumption) ?_
  simp only [Act.put, List.setIfInBounds_toArray, List.set_cons_zero, List.set_cons_succ]
  refine wpAnyH_take (i := 5) (oi := { dst := some 12, op := Op.load 27 (Operand.tmp 1), type := _, pos := _, after := _, guard := some (2, false) }) (v := .agg cm) rfl (by kernel_rfl) (by kernel_rfl) (by kernel_rfl) (fun _ _ _ h => h) (Or.inl ⟨by rfl, fun w hSw => ldMb_exec hSw.2 HC.out rfl rfl⟩) (by assumption) ?_
  simp only [Act.put, List.setIfInBounds_toArray, List.set_cons_zero, List.set_cons_succ]
  refine wpAnyH_ready (rs := [4]) (by kernel_rfl) (by simp) ?_
  refine AllReadyH.cons rfl (fun K hK => ?_) AllReadyH.nil
  go_simp
  refine (HN1.out _).mono ?_
  rintro e w7 ⟨rfl, hb7⟩
  go_wp2_with fail
  refine hK.out _ _ ⟨Wi.Below.join hHeld2.1 hb7, hHeld2.2.later hb7⟩ (fun hHeld3 => ?_)
  clear hHeld2 hb7
  clear hK K
  try simp only [Act.put, List.setIfInBounds_toArray, List.set_cons_zero, List.set_cons_succ]
  refine wpAnyH_ready (rs := [6]) (by kernel_rfl) (by simp) ?_
  refine AllReadyH.cons rfl (fun K hK => ?_) AllReadyH.nil
  go_simp
  refine (HN2.out _).mono ?_
  rintro e w7 ⟨rfl, hb7⟩
  go_wp2_with fail
  refine hK.out _ _ ⟨Wi.Below.join hHeld3.1 hb7, hHeld3.2.later hb7⟩ (fun hHeld4 => ?_)
  clear hHeld3 hb7
  clear hK K
  try simp only [Act.put, List.setIfInBounds_toArray, List.set_cons_zero, List.set_cons_succ]
  refine wpAnyH_take (i := 7) (oi := { dst := some 14, op := Op.binOp BinOp.neq 4 (Operand.tmp 11) (Operand.tmp 13) 4, type := _, pos := _, after := _, guard := some (2, false) }) (v := .bool false) rfl (by kernel_rfl) (by kernel_rfl) (by kernel_rfl) (fun _ _ _ h => h) (Or.inl ⟨by rfl, fun w hSw => by (try dsimp only at hSw); go_simp⟩) (by assumption) ?_
  simp only [Act.put, List.setIfInBounds_toArray, List.set_cons_zero, List.set_cons_succ]
  refine wpAnyH_take (i := 8) (oi := { dst := some 15, op := Op.pick (Operand.tmp 9) (Operand.const (Value.bool true)) (Operand.tmp 14), type := _, pos := _, after := _, guard := none }) (v := .bool false) rfl (by kernel_rfl) (by kernel_rfl) (by kernel_rfl) (fun _ _ _ h => h) (Or.inl ⟨by rfl, fun w hSw => by (try dsimp only at hSw); go_simp⟩) (by assumption) ?_
  simp only [Act.put, List.setIfInBounds_toArray, List.set_cons_zero, List.set_cons_succ]
  refine wpAnyH_done (by kernel_rfl) ?_ _
  obtain ⟨hB4, hS4⟩ := hHeld4
  go_wp2_with (refine ldMb hS4 HC.out _ rfl rfl rfl ?_)
  refine (ha1 _).mono ?_
  rintro r w5 ⟨rfl, hb5⟩
  have hb6 := Wi.Below.join hb5 (below_alloc w5 (.cells #[.int .i64 a, .int .i64 b] 31))
  have hq6 := QAt.new w5 a b
  have hB6 := Wi.Below.join hB4 hb6
  have hS6 := hS4.later hb6
  clear hb5 hb6 hB4 hS4 ha1
  go_upto_region 4 with (fail)
  generalize w5.alloc (.cells #[.int .i64 a, .int .i64 b] 31) = w6 at *
  generalize w5.heap.size = P at *
  go_wp2_with (refine ldMb hS6 HC.out _ rfl rfl rfl ?_)
  refine (ha2 _).mono ?_
  rintro r w7 ⟨rfl, hb7⟩
  have hb8 := Wi.Below.join hb7 (below_alloc w7 (.cells #[.int .i64 a, .int .i64 b] 31))
  have hq8 := QAt.new w7 a b
  have hB8 := Wi.Below.join hB6 hb8
  have hp8 := hq6.later hb8
  clear hb7 hb8 hB6 hS6 ha2 hq6
  go_upto_region 5 with (fail)
  generalize w7.alloc (.cells #[.int .i64 a, .int .i64 b] 31) = w8 at *
  generalize w7.heap.size = R at *
  have HB8 : Hid (Below w.heap.size w w8) := hB8
  have e1 := eqr w8
  obtain ⟨x0, x1⟩ := hq8.cells
  obtain ⟨y0, y1⟩ := hp8.cells
  clear hB8 hq8 hp8 eqr
  unfold Wi.stl at e1
  go_wp2_with (refine Wi.eqX e1 Tryz.eqGuardType31 _ _ rfl rfl rfl rfl ?_)
  go_ret
  exact ⟨by simp, HB8.out⟩
theorem own : ownKnob Tryz.prog.godebug = none := by kernel_rfl
theorem laidOut : laidOutB Tryz.prog = true := by kernel_rfl
set_option maxRecDepth 100000 in
theorem lifted (os : Os) (started : os.Started) (H : Type) (enc : TypeId × Value → H) :
    ReturnsInHanded {} Tryz.checked os 3 .any (Rows.recoveryAsksSpec.pre6 enc Tryz.prog Tryz.f3 Rows.recoveryAsksRow.domain false) (Rows.recoveryAsksSpec.post enc Tryz.prog Tryz.f3 false true false false) := by
  refine returnsInHanded_of_change (C := Tryz.checked) own started (by kernel_rfl) Tryz.func3
    (ChangeSpec.witness6 (enc := enc) (C := Tryz.checked) false ⟨#[], #[.agg #[.int .i64 0, .int .i64 0, .int .i64 0, .int .i64 0, .int .i64 0, .int .i64 0, .int .i64 0, .int .i64 0, .int .i64 0, .int .i64 0, .int .i64 0, .bool false, .bool false, .int .i64 0]], []⟩ 8 (by kernel_rfl) (by kernel_rfl) (by kernel_rfl) (by kernel_rfl)) ?_
  intro W base args ds gs before hval0 hW hcnd _
  have hval : ∀ (j : Nat) t v, Tryz.f3.params[j]? = some t → args[j]? = some v → Value.okWide Tryz.prog W .any base t v := hval0
  have hW' := hW
  obtain ⟨p, q, hA0, hV, rfl, hfz, hnd⟩ := hW
  have hA : DataW.TrodAll enc Tryz.prog W 0 (fun _ => true) true Tryz.f3.params.toList args.toList ds p := hA0
  rw [Tryz.params3] at hA hval
  obtain ⟨v0, vs0, d0, ds0, p0, q0, hargs, rfl, rfl, h0, r0⟩ := trodAll_cons hA
  obtain ⟨rfl, rfl, rfl⟩ := trodAll_nil r0
  obtain rfl : args = #[v0] := by cases args; simp_all
  obtain ⟨rfl, rfl⟩ := trodVars_none hV
  have k0 := h0
  have lt0 : ∀ x ∈ p0, x.block < W.heap.size := by obtain ⟨m, hm⟩ := k0; exact DataW.trod_lt m _ _ _ hm
  obtain ⟨m0, rfl⟩ := Mb.open_mb (hval 0 27 v0 rfl rfl) h0
  clear hA0 hval0
  refine (walk m0 W).mono fun e W' ⟨he, bel⟩ => ?_
  subst he
  exact ⟨_, rfl, _, _, _, [], _, [], hW', trodAll_mk1 (shut_bool Tryz.underlying4 _), (trodAll_cons_mk (Below.trod laidOut (by kernel_rfl) (of_decide_eq_true (by kernel_rfl)) k0 bel lt0) trodAll_mk0), rfl, bel.frame _, fun h => by cases h⟩
theorem over : Rows.recoveryAsksRow.holds Tryz.pinned (OpenSpec.ofChange Rows.recoveryAsksSpec) :=
  OpenClaim.holds_of_wide 3 Tryz.f3 rfl rfl rfl rfl rfl rfl rfl ⟨rfl, rfl, rfl, rfl, rfl⟩ rfl rfl rfl rfl rfl (by kernel_rfl) Tryz.func3 (by kernel_rfl)
    (of_decide_eq_true (by kernel_rfl)) (by unfold Func.isWrapper; first | (rw [if_pos (by decide +kernel)]; kernel_rfl) | (rw [if_neg (by decide +kernel)]; exact ⟨rfl, rfl⟩))
    (fun os started H enc _ => lifted os started H enc)
end Go.Proofs.YtdghibimelhgjaaGreat.recoveryAsks
namespace Go.Proofs.YtdghibimelhgjaaGreat
theorem recoveryAsks_holds : Rows.RecoveryAsksSaid := recoveryAsks.over
#print axioms recoveryAsks_holds
end Go.Proofs.YtdghibimelhgjaaGreat
