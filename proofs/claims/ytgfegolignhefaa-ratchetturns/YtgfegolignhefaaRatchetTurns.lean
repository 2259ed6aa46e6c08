/- For every keys, every mask and every number: Check and Turn of package ratchet answer what the document says, and what Turn answers is right: RatchetTurns, with no condition. -/
import Derived.Test.YtgfegolignhefaaRows
import Derived.Test.YtgfegolignhefaaRtG
import Derived.Test.YtgfegolignhefaaOpenRt
namespace Go.Proofs.Ytgfegolignhefaa.ratchetTurns
open Go.ChangeShapes Go.WideShapes Go.ChangeAt Go.RowKit
set_option linter.unusedVariables false
set_option linter.unusedSimpArgs false

/- The keys that came in. -/
structure K1 (w W : World) (f : Nat → Ky) : Prop where
  ks : KsAt W w.heap.size f
  bel : Below w.heap.size w W
theorem K1.later {w W W' : World} {f : Nat → Ky} (h : K1 w W f) (hb : Below W.heap.size W W') : K1 w W' f := ⟨h.ks.later hb, h.bel.trans (hb.mono h.bel.size)⟩
set_option maxRecDepth 100000 in
set_option maxHeartbeats 1000000 in
theorem walk (f : Nat → Ky) (a1 : Int) (n : Int) (wf : ∀ i, i < 21 → KyWf (f i)) (w1 : (Lit.int .u32 a1).wf = true) (w2 : (Lit.int .i64 n).wf = true) (w : World) :
    Calls Try.prog 3 #[.agg (kcs f), .int .u32 a1, .int .i64 n] w fun e w' => e = .returned (.bool true) ∧ Below w.heap.size w w' := by
  obtain ⟨r, rfl, hr⟩ : ∃ r : Nat, a1 = (r : Int) ∧ r < 4294967296 := u32_nat w1
  clear wf w1 w2
  have hK : K1 w (w.alloc (.cells (kcs f) 25)) f := ⟨KsAt.new w f, alloc_ks w f⟩
  have hc1 := check_any f
  have hc2 := rCheck_any f
  have ht1 := turn_any f r hr n
  have ht2 := rTurn_any f r hr n
  unfold TurnA at ht1 ht2
  have HRT : Hid (trE f r n = 0 → kchkE (trA f r n) = 0) := fun h => kchkE_tt (trA_right h)
  have hck := check_any (trA f r n)
  obtain ⟨E, hE⟩ : ∃ E, trE f r n = E := ⟨_, rfl⟩
  obtain ⟨g, hg⟩ : ∃ g, trA f r n = g := ⟨_, rfl⟩
  obtain ⟨m, hm⟩ : ∃ m, trN f r n = m := ⟨_, rfl⟩
  simp only [hE, hg, hm] at ht1 ht2
  rw [hE, hg] at HRT
  rw [hg] at hck
  clear hE hg hm
  obtain ⟨C, hC⟩ : ∃ C, kchkE f = C := ⟨_, rfl⟩
  simp only [hC] at hc1 hc2
  clear hC
  go_enter Try.func3, Try.ntmps3
  go_upto_region 1 with (fail)
  generalize w.alloc (.cells (kcs f) 25) = wa at *
  have hS0 : K1 w wa.drew f := hK.later (drew_below _)
  refine wp_region_held_drew (S := fun W => K1 w W f) (by kernel_rfl) hS0 (fun hHeld => ?_)
  refine wpAnyH_ready (rs := [0]) (by kernel_rfl) (by simp) ?_
  refine AllReadyH.cons rfl (fun K hK => ?_) AllReadyH.nil
  go_simp
  refine (lives_any _).mono ?_
  rintro e w3 ⟨rfl, hb3⟩
  go_wp2_with fail
  refine hK.out _ _ (hHeld.later hb3) (fun hHeld2 => ?_)
  clear hHeld hb3
  clear hK K
  try simp only [Act.put, List.setIfInBounds_toArray, List.set_cons_zero, List.set_cons_succ]
  refine wpAnyH_take (i := 1) (oi := { dst := some 14, op := Op.unOp UnOp.not 4 (Operand.tmp 13), type := _, pos := _, after := _, guard := none }) (v := .bool false) rfl (by kernel_rfl) (by kernel_rfl) (by kernel_rfl) (fun _ _ _ h => h) (Or.inl ⟨by rfl, fun w hSw => by (try dsimp only at hSw); go_simp⟩) (by assumption) ?_
  simp only [Act.put, List.setIfInBounds_toArray, List.set_cons_zero, List.set_cons_succ]
  refine wpAnyH_take (i := 2) (oi := { dst := some 15, op := Op.move (Operand.tmp 14), type := _, pos := _, after := _, guard := none }) (v := .bool false) rfl (by kernel_rfl) (by kernel_rfl) (by kernel_rfl) (fun _ _ _ h => h) (Or.inl ⟨by rfl, fun w hSw => by (try dsimp only at hSw); go_simp⟩) (by assumption) ?_
  simp only [Act.put, List.setIfInBounds_toArray, List.set_cons_zero, List.set_cons_succ]
  refine wpAnyH_take (i := 3) (oi := { dst := some 16, op := Op.load 25 (Operand.tmp 3), type := _, pos := _, after := _, guard := some (2, false) }) (v := .agg (kcs f)) rfl (by kernel_rfl) (by kernel_rfl) (by kernel_rfl) (fun _ _ _ h => h) (Or.inl ⟨by rfl, fun w hSw => ldK_exec hSw.ks rfl rfl⟩) (by assumption) ?_
  simp only [Act.put, List.setIfInBounds_toArray, List.set_cons_zero, List.set_cons_succ]
  refine wpAnyH_take (i := 5) (oi := { dst := some 18, op := Op.load 25 (Operand.tmp 3), type := _, pos := _, after := _, guard := some (2, false) }) (v := .agg (kcs f)) rfl (by kernel_rfl) (by kernel_rfl) (by kernel_rfl) (fun _ _ _ h => h) (Or.inl ⟨by rfl, fun w hSw => ldK_exec hSw.ks rfl rfl⟩) (by assumption) ?_
  simp only [Act.put, List.setIfInBounds_toArray, List.set_cons_zero, List.set_cons_succ]
  refine wpAnyH_ready (rs := [4]) (by kernel_rfl) (by simp) ?_
  refine AllReadyH.cons rfl (fun K hK => ?_) AllReadyH.nil
  go_simp
  refine (hc1 _).mono ?_
  rintro e w4 ⟨rfl, hb4⟩
  go_wp2_with fail
  refine hK.out _ _ (hHeld2.later hb4) (fun hHeld3 => ?_)
  clear hHeld2 hb4
  clear hK K
  try simp only [Act.put, List.setIfInBounds_toArray, List.set_cons_zero, List.set_cons_succ]
  refine wpAnyH_ready (rs := [6]) (by kernel_rfl) (by simp) ?_
  refine AllReadyH.cons rfl (fun K hK => ?_) AllReadyH.nil
  go_simp
  refine (hc2 _).mono ?_
  rintro e w5 ⟨rfl, hb5⟩
  go_wp2_with fail
  refine hK.out _ _ (hHeld3.later hb5) (fun hHeld4 => ?_)
  clear hHeld3 hb5
  clear hK K
  try simp only [Act.put, List.setIfInBounds_toArray, List.set_cons_zero, List.set_cons_succ]
  refine wpAnyH_take (i := 7) (oi := { dst := some 20, op := Op.binOp BinOp.neq 28 (Operand.tmp 17) (Operand.tmp 19) 28, type := _, pos := _, after := _, guard := some (2, false) }) (v := .bool false) rfl (by kernel_rfl) (by kernel_rfl) (by kernel_rfl) (fun _ _ _ h => h) (Or.inl ⟨by rfl, fun w hSw => by (try dsimp only at hSw); go_simp⟩) (by assumption) ?_
  simp only [Act.put, List.setIfInBounds_toArray, List.set_cons_zero, List.set_cons_succ]
  refine wpAnyH_take (i := 8) (oi := { dst := some 21, op := Op.pick (Operand.tmp 15) (Operand.const (Value.bool true)) (Operand.tmp 20), type := _, pos := _, after := _, guard := none }) (v := .bool false) rfl (by kernel_rfl) (by kernel_rfl) (by kernel_rfl) (fun _ _ _ h => h) (Or.inl ⟨by rfl, fun w hSw => by (try dsimp only at hSw); go_simp⟩) (by assumption) ?_
  simp only [Act.put, List.setIfInBounds_toArray, List.set_cons_zero, List.set_cons_succ]
  refine wpAnyH_done (by kernel_rfl) ?_ _
  clear hc1 hc2
  go_upto_region 3 with (fail)
  refine wp_region_lit ?_
  refine ldK hHeld4.ks rfl _ rfl rfl ?_
  go_wp2_with fail
  refine (ht1 _).mono ?_
  rintro e w6 ⟨rfl, hb6⟩
  have hK6 := hHeld4.later hb6
  have hz6 := new_zeroK w6
  clear ht1 hb6 hHeld4
  go_upto_region 4 with (refine stK (g := g) hz6 rfl _ _ rfl rfl rfl ?_)
  rw [alloc_zeroK, World.setRow_alloc_new]
  have hG7 := KsAt.new w6 g
  have hK7 := hK6.later (alloc_ks w6 g)
  clear hz6 hK6
  generalize w6.alloc (.cells (kcs g) 25) = w7 at *
  generalize w6.heap.size = B7 at *
  refine wp_region_lit ?_
  refine ldK hK7.ks rfl _ rfl rfl ?_
  go_wp2_with fail
  refine (ht2 _).mono ?_
  rintro e w8 ⟨rfl, hb8⟩
  have hK8 := hK7.later hb8
  have hG8 := hG7.later hb8
  have hz8 := new_zeroK w8
  clear ht2 hb8 hK7 hG7
  go_upto_region 5 with (refine stK (g := g) hz8 rfl _ _ rfl rfl rfl ?_)
  rw [alloc_zeroK, World.setRow_alloc_new]
  have hH9 := KsAt.new w8 g
  have hK9 := hK8.later (alloc_ks w8 g)
  have hG9 := hG8.later (alloc_ks w8 g)
  clear hz8 hK8 hG8
  generalize w8.alloc (.cells (kcs g) 25) = w9 at *
  generalize w8.heap.size = B9 at *
  have HEQ : eqA g g = true := eqA_refl g
  refine wp_region_lit ?_
  refine ldK hG9 rfl _ rfl rfl ?_
  refine ldK hH9 rfl _ rfl rfl ?_
  refine eqK HEQ rfl _ _ rfl rfl rfl ?_
  obtain ⟨cg, hcg⟩ : ∃ cg, kcs g = cg := ⟨_, rfl⟩
  rw [hcg]
  have hck9 := hck w9
  rw [hcg] at hck9
  by_cases hE0 : E = 0
  · rw [HRT.out hE0] at hck9
    subst hE0
    go_wp2_with (refine rd_guard (v := .agg cg) (by rfl) (by rw [← hcg]; exact ldK_exec hG9 rfl rfl) ?_)
    refine hck9.mono ?_
    rintro e w10 ⟨rfl, hb10⟩
    go_wp2_with fail
    go_ret
    exact ⟨rfl, hK9.bel.trans (hb10.mono hK9.bel.size)⟩
  · have hE1 : (E == 0) = false := by simp [hE0]
    go_wp2_with fail
    go_ret
    exact ⟨rfl, hK9.bel⟩
theorem own : ownKnob Try.prog.godebug = none := by kernel_rfl
theorem laidOut : laidOutB Try.prog = true := by kernel_rfl
set_option maxRecDepth 100000 in
theorem lifted (os : Os) (started : os.Started) (H : Type) (enc : TypeId × Value → H) :
    ReturnsInHanded {} Try.checked os 3 .any (Rows.ratchetTurnsSpec.pre6 enc Try.prog Try.f3 Rows.ratchetTurnsRow.domain false) (Rows.ratchetTurnsSpec.post enc Try.prog Try.f3 false true false false) := by
  refine returnsInHanded_of_change (C := Try.checked) own started (by kernel_rfl) Try.func3
    (ChangeSpec.witness6 (enc := enc) (C := Try.checked) false ⟨#[], #[.agg #[.int .i64 0, .int .i64 0, .int .i64 0, .int .i64 0, .int .i64 0, .int .i64 0, .int .i64 0, .int .i64 0, .int .i64 0, .int .i64 0, .int .i64 0, .int .i64 0, .int .i64 0, .int .i64 0, .int .i64 0, .int .i64 0, .int .i64 0, .int .i64 0, .int .i64 0, .int .i64 0, .int .i64 0, .int .i64 0, .int .i64 0, .int .i64 0, .int .i64 0, .int .i64 0, .int .i64 0, .int .i64 0, .int .i64 0, .int .i64 0, .int .i64 0, .int .i64 0, .int .i64 0, .int .i64 0, .int .i64 0, .int .i64 0, .int .i64 0, .int .i64 0, .int .i64 0, .int .i64 0, .int .i64 0, .int .i64 0], .int .u32 0, .int .i64 0], []⟩ 8 (by kernel_rfl) (by kernel_rfl) (by kernel_rfl) (by kernel_rfl)) ?_
  intro W base args ds gs before hval0 hW hcnd _
  have hval : ∀ (j : Nat) t v, Try.f3.params[j]? = some t → args[j]? = some v → Value.okWide Try.prog W .any base t v := hval0
  have hW' := hW
  obtain ⟨p, q, hA0, hV, rfl, hfz, hnd⟩ := hW
  have hA : DataW.TrodAll enc Try.prog W 0 (fun _ => true) true Try.f3.params.toList args.toList ds p := hA0
  rw [Try.params3] at hA hval
  obtain ⟨v0, vs0, d0, ds0, p0, q0, hargs, rfl, rfl, h0, r0⟩ := trodAll_cons hA
  obtain ⟨v1, vs1, d1, ds1, p1, q1, rfl, rfl, rfl, h1, r1⟩ := trodAll_cons r0
  obtain ⟨v2, vs2, d2, ds2, p2, q2, rfl, rfl, rfl, h2, r2⟩ := trodAll_cons r1
  obtain ⟨rfl, rfl, rfl⟩ := trodAll_nil r2
  obtain rfl : args = #[v0, v1, v2] := by cases args; simp_all
  obtain ⟨rfl, rfl⟩ := trodVars_none hV
  have k0 := h0
  have lt0 : ∀ x ∈ p0, x.block < W.heap.size := by obtain ⟨m, hm⟩ := k0; exact DataW.trod_lt m _ _ _ hm
  obtain ⟨f0, rfl, wf0⟩ := open_ks (hval 0 25 v0 rfl rfl) h0
  obtain ⟨a1, rfl, rfl, rfl, w1⟩ := open_int Try.underlying26 (hval 1 26 v1 rfl rfl) h1
  obtain ⟨a2, rfl, rfl, rfl, w2⟩ := open_int Try.underlying3 (hval 2 3 v2 rfl rfl) h2
  clear hA0 hval0
  refine (walk f0 a1 a2 wf0 w1 w2 W).mono fun e W' ⟨he, bel⟩ => ?_
  subst he
  exact ⟨_, rfl, _, _, _, [], _, [], hW', trodAll_mk1 (shut_bool Try.underlying4 _), (trodAll_cons_mk (Below.trod laidOut (by kernel_rfl) (of_decide_eq_true (by kernel_rfl)) k0 bel lt0) (trodAll_cons_mk (shut_int Try.underlying26 w1) (trodAll_cons_mk (shut_int Try.underlying3 w2) trodAll_mk0))), rfl, bel.frame _, fun h => by cases h⟩
theorem over : Rows.ratchetTurnsRow.holds Try.pinned (OpenSpec.ofChange Rows.ratchetTurnsSpec) :=
  OpenClaim.holds_of_wide 3 Try.f3 rfl rfl rfl rfl rfl rfl rfl ⟨rfl, rfl, rfl, rfl, rfl⟩ rfl rfl rfl rfl rfl (by kernel_rfl) Try.func3 (by kernel_rfl)
    (of_decide_eq_true (by kernel_rfl)) (by unfold Func.isWrapper; first | (rw [if_pos (by decide +kernel)]; kernel_rfl) | (rw [if_neg (by decide +kernel)]; exact ⟨rfl, rfl⟩))
    (fun os started H enc _ => lifted os started H enc)
end Go.Proofs.Ytgfegolignhefaa.ratchetTurns
namespace Go.Proofs.Ytgfegolignhefaa
theorem ratchetTurns_holds : Rows.RatchetTurnsSaid := ratchetTurns.over
#print axioms ratchetTurns_holds
end Go.Proofs.Ytgfegolignhefaa
