/- For every two keys: Gives and Compare of package key answer what the document says. No conditions. -/
import Derived.Test.YtdbnaoddnelebaaRows
import Derived.Test.YtdbnaoddnelebaaKeyC
import Derived.Test.YtdbnaoddnelebaaKeyD
import Derived.Test.YtdbnaoddnelebaaOpenKey
namespace Go.Proofs.Ytdbnaoddnelebaa.keyGives
open Go.ChangeShapes Go.WideShapes Go.ChangeAt Go.RowKit
set_option linter.unusedVariables false

theorem compare_below (b s c t : Int) (w : World) :
    Calls Try.prog 16 #[.agg #[.int .i64 b, .int .i64 s], .agg #[.int .i64 c, .int .i64 t]] w fun e w' => e = .returned (.int .i64 (cm b s c t)) ∧ Below w.heap.size w w' :=
  (compare_any b s c t w).mono fun e w' ⟨he, hw⟩ => ⟨he, hw ▸ Below.more (below1 _ _) _⟩
theorem rCompare_below (b s c t : Int) (w : World) :
    Calls Try.prog 17 #[.agg #[.int .i64 b, .int .i64 s], .agg #[.int .i64 c, .int .i64 t]] w fun e w' => e = .returned (.int .i64 (cm b s c t)) ∧ Below w.heap.size w w' :=
  (rCompare_any b s c t w).mono fun e w' ⟨he, hw⟩ => ⟨he, hw ▸ Below.more (below1 _ _) _⟩

set_option maxHeartbeats 2000000 in
theorem walk (b s c t : Int) (w0 : (Lit.int .i64 b).wf = true) (w1 : (Lit.int .i64 s).wf = true) (w2 : (Lit.int .i64 c).wf = true) (w3 : (Lit.int .i64 t).wf = true) (w : World) :
    Calls Try.prog 4 #[.agg #[.int .i64 b, .int .i64 s], .agg #[.int .i64 c, .int .i64 t]] w fun e w' => e = .returned (.bool true) ∧ Below w.heap.size w w' := by
  clear w0 w1 w2 w3
  obtain ⟨g, hg⟩ : ∃ g, gv b s c t = g := ⟨_, rfl⟩
  obtain ⟨m, hm⟩ : ∃ m, cm b s c t = m := ⟨_, rfl⟩
  have hA := fun w => gives_any b s c t w
  have hB := fun w => rGives_any b s c t w
  have hC := fun w => compare_below b s c t w
  have hD := fun w => rCompare_below b s c t w
  rw [hg] at hA hB
  rw [hm] at hC hD
  clear hg hm
  have K0 : Kp w [(w.heap.size + 1, .int .i64 c, .int .i64 t), (w.heap.size, .int .i64 b, .int .i64 s)] ((w.alloc (.cells #[.int .i64 b, .int .i64 s] 23)).alloc (.cells #[.int .i64 c, .int .i64 t] 23)) := ((Kp.start w).box _ _ _ _ rfl).box _ _ _ _ (by simp)
  go_enter Try.func4, Try.ntmps4
  go_wp2_with fail
  obtain ⟨-, c0, c1, d0, d1⟩ := kp2 K0
  go_region_held3 (fun w' => Kp w [(w.heap.size + 1, .int .i64 c, .int .i64 t), (w.heap.size, .int .i64 b, .int .i64 s)] w' ∧ w'.cell? ⟨w.heap.size + 1, 0, none⟩ = some (.int .i64 c) ∧ w'.cell? ⟨w.heap.size + 1, 1, none⟩ = some (.int .i64 t) ∧ w'.cell? ⟨w.heap.size, 0, none⟩ = some (.int .i64 b) ∧ w'.cell? ⟨w.heap.size, 1, none⟩ = some (.int .i64 s)) (first | exact kp2 K0.drew | (refine kp2 ?_; first | exact Kp.call' (by assumption) hb | exact Kp.alloc' (by assumption) _)) (first
    | (go_at_call 9; refine (lives_any _).mono ?_; rintro e w' ⟨rfl, hb⟩)
    | (go_at_call 14; refine (hA _).mono ?_; rintro e w' ⟨rfl, hb⟩)
    | (go_at_call 15; refine (hB _).mono ?_; rintro e w' ⟨rfl, hb⟩)
    | (go_at_call 16; refine (hC _).mono ?_; rintro e w' ⟨rfl, hb⟩)
    | (go_at_call 17; refine (hD _).mono ?_; rintro e w' ⟨rfl, hb⟩))
  go_wp2
  go_ret
  exact ⟨rfl, Kp.below' (by assumption)⟩

theorem own : ownKnob Try.prog.godebug = none := by kernel_rfl
theorem laidOut : laidOutB Try.prog = true := by kernel_rfl
set_option maxRecDepth 100000 in
theorem lifted (os : Os) (started : os.Started) (H : Type) (enc : TypeId × Value → H) :
    ReturnsInHanded {} Try.checked os 4 .any (Rows.keyGivesSpec.pre6 enc Try.prog Try.f4 Rows.keyGivesRow.domain false) (Rows.keyGivesSpec.post enc Try.prog Try.f4 false true false false) := by
  refine returnsInHanded_of_change (C := Try.checked) own started (by kernel_rfl) Try.func4
    (ChangeSpec.witness6 (enc := enc) (C := Try.checked) false ⟨#[], #[.agg #[.int .i64 0, .int .i64 0], .agg #[.int .i64 0, .int .i64 0]], []⟩ 8 (by kernel_rfl) (by kernel_rfl) (by kernel_rfl) (by kernel_rfl)) ?_
  intro W base args ds gs before hval0 hW hcnd _
  have hval : ∀ (j : Nat) t v, Try.f4.params[j]? = some t → args[j]? = some v → Value.okWide Try.prog W .any base t v := hval0
  have hW' := hW
  obtain ⟨p, q, hA0, hV, rfl, hfz, hnd⟩ := hW
  have hA : DataW.TrodAll enc Try.prog W 0 (fun _ => true) true Try.f4.params.toList args.toList ds p := hA0
  rw [Try.params4] at hA hval
  obtain ⟨v0, vs0, d0, ds0, p0, q0, hargs, rfl, rfl, h0, r0⟩ := trodAll_cons hA
  obtain ⟨v1, vs1, d1, ds1, p1, q1, rfl, rfl, rfl, h1, r1⟩ := trodAll_cons r0
  obtain ⟨rfl, rfl, rfl⟩ := trodAll_nil r1
  obtain rfl : args = #[v0, v1] := by cases args; simp_all
  obtain ⟨rfl, rfl⟩ := trodVars_none hV
  have k0 := h0
  have lt0 : ∀ x ∈ p0, x.block < W.heap.size := by obtain ⟨m, hm⟩ := k0; exact DataW.trod_lt m _ _ _ hm
  obtain ⟨a0_0, a0_1, rfl, w0_0, w0_1⟩ := open_pair Try.underlying23 (by kernel_rfl) (by kernel_rfl) rfl rfl Try.underlying3 (hval 0 23 v0 rfl rfl) h0
  have k1 := h1
  have lt1 : ∀ x ∈ p1, x.block < W.heap.size := by obtain ⟨m, hm⟩ := k1; exact DataW.trod_lt m _ _ _ hm
  obtain ⟨a1_0, a1_1, rfl, w1_0, w1_1⟩ := open_pair Try.underlying23 (by kernel_rfl) (by kernel_rfl) rfl rfl Try.underlying3 (hval 1 23 v1 rfl rfl) h1
  clear hA0 hval0
  refine (walk a0_0 a0_1 a1_0 a1_1 w0_0 w0_1 w1_0 w1_1 W).mono fun e W' ⟨he, bel⟩ => ?_
  subst he
  exact ⟨_, rfl, _, _, _, [], _, [], hW', trodAll_mk1 (shut_bool Try.underlying4 _), (trodAll_cons_mk (Below.trod laidOut (by kernel_rfl) (of_decide_eq_true (by kernel_rfl)) k0 bel lt0) (trodAll_cons_mk (Below.trod laidOut (by kernel_rfl) (of_decide_eq_true (by kernel_rfl)) k1 bel lt1) trodAll_mk0)), rfl, bel.frame _, fun h => by cases h⟩
theorem over : Rows.keyGivesRow.holds Try.pinned (OpenSpec.ofChange Rows.keyGivesSpec) :=
  OpenClaim.holds_of_wide 4 Try.f4 rfl rfl rfl rfl rfl rfl rfl ⟨rfl, rfl, rfl, rfl, rfl⟩ rfl rfl rfl rfl rfl (by kernel_rfl) Try.func4 (by kernel_rfl)
    (of_decide_eq_true (by kernel_rfl)) (by unfold Func.isWrapper; first | (rw [if_pos (by decide +kernel)]; kernel_rfl) | (rw [if_neg (by decide +kernel)]; exact ⟨rfl, rfl⟩))
    (fun os started H enc _ => lifted os started H enc)
end Go.Proofs.Ytdbnaoddnelebaa.keyGives
namespace Go.Proofs.Ytdbnaoddnelebaa
theorem keyGives_holds : Rows.KeyGivesSaid := keyGives.over
#print axioms keyGives_holds
end Go.Proofs.Ytdbnaoddnelebaa
