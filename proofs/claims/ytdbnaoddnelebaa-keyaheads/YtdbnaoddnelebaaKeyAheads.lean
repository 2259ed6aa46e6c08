/- For every key and every number: Good and Ahead of package key answer what the document's own reckoning, one step after the other, answers. No conditions. -/
import Derived.Test.YtdbnaoddnelebaaRows
import Derived.Test.YtdbnaoddnelebaaKeyB
import Derived.Test.YtdbnaoddnelebaaKeyD
import Derived.Test.YtdbnaoddnelebaaOpenKey
namespace Go.Proofs.Ytdbnaoddnelebaa.keyAheads
open Go.ChangeShapes Go.WideShapes Go.ChangeAt Go.RowKit
set_option linter.unusedVariables false

theorem aheads_same (b s n : Int) : ∃ (x y e : Int),
    (∀ w, Calls Try.prog 12 #[.agg #[.int .i64 b, .int .i64 s], .int .i64 n] w fun r w' => r = .returned (.tuple #[.agg #[.int .i64 x, .int .i64 y], .int .i64 e]) ∧ Below w.heap.size w w') ∧
    (∀ w, Calls Try.prog 13 #[.agg #[.int .i64 b, .int .i64 s], .int .i64 n] w fun r w' => r = .returned (.tuple #[.agg #[.int .i64 x, .int .i64 y], .int .i64 e]) ∧ Below w.heap.size w w') := by
  by_cases h : Gd b s
  · have h3 := h.2.2.1
    by_cases hn : 0 ≤ n ∧ n ≤ 255
    · by_cases hs : s + n ≤ 255
      · exact ⟨_, _, _, ahead_yes b s n h hn.1 (by omega), fun w => (rAhead_in b s n h hn.1 hn.2 w).mono fun e w' ⟨he, hb⟩ => ⟨by rwa [if_pos hs] at he, hb⟩⟩
      · exact ⟨_, _, _, ahead_far b s n h (by omega), fun w => (rAhead_in b s n h hn.1 hn.2 w).mono fun e w' ⟨he, hb⟩ => ⟨by rwa [if_neg hs] at he, hb⟩⟩
    · exact ⟨_, _, _, ahead_far b s n h (by omega), rAhead_off b s n h (by omega)⟩
  · exact ⟨_, _, _, ahead_bad b s n h, rAhead_bad b s n h⟩

set_option maxHeartbeats 1000000 in
theorem walk (b s n : Int) (w0 : (Lit.int .i64 b).wf = true) (w1 : (Lit.int .i64 s).wf = true) (w2 : (Lit.int .i64 n).wf = true) (w : World) :
    Calls Try.prog 3 #[.agg #[.int .i64 b, .int .i64 s], .int .i64 n] w fun e w' => e = .returned (.bool true) ∧ Below w.heap.size w w' := by
  clear w0 w1 w2
  obtain ⟨x, y, r, hA, hR⟩ := aheads_same b s n
  have K0 : Kp w [(w.heap.size, .int .i64 b, .int .i64 s)] (w.alloc (.cells #[.int .i64 b, .int .i64 s] 23)) := (Kp.start w).box _ _ _ _ rfl
  go_enter Try.func3, Try.ntmps3
  go_wp2_with fail
  obtain ⟨c0, c1⟩ := K0.one
  go_region_held3 (fun w' => Kp w [(w.heap.size, .int .i64 b, .int .i64 s)] w' ∧ w'.cell? ⟨w.heap.size, 0, none⟩ = some (.int .i64 b) ∧ w'.cell? ⟨w.heap.size, 1, none⟩ = some (.int .i64 s)) (first | exact kp1 K0.drew | (refine kp1 ?_; first | exact Kp.call' (by assumption) hb | exact Kp.alloc' (by assumption) _)) (first
    | (go_at_call 9; refine (lives_any _).mono ?_; rintro e w' ⟨rfl, hb⟩)
    | (go_at_call 10; refine (good_any _ _ _).mono ?_; rintro e w' ⟨rfl, rfl⟩)
    | (go_at_call 11; refine (rGood_any _ _ _).mono ?_; rintro e w' ⟨rfl, rfl⟩))
  go_wp2_with fail
  refine (hA _).mono ?_
  rintro e w2 ⟨rfl, hb2⟩
  have K2 := Kp.call' (by assumption) hb2
  clear hb hb2 c0 c1 K0
  obtain ⟨c0, c1⟩ := K2.onea
  go_wp2_with fail
  refine (hR _).mono ?_
  rintro e w3 ⟨rfl, hb3⟩
  have K3 := Kp.call (K2.box _ _ _ _ rfl) hb3
  obtain ⟨d0, d1⟩ := K3.onea
  clear hb3 c0 c1 K2
  go_wp2
  go_ret
  exact ⟨rfl, Below.more K3.1 _⟩

theorem own : ownKnob Try.prog.godebug = none := by kernel_rfl
theorem laidOut : laidOutB Try.prog = true := by kernel_rfl
set_option maxRecDepth 100000 in
theorem lifted (os : Os) (started : os.Started) (H : Type) (enc : TypeId × Value → H) :
    ReturnsInHanded {} Try.checked os 3 .any (Rows.keyAheadsSpec.pre6 enc Try.prog Try.f3 Rows.keyAheadsRow.domain false) (Rows.keyAheadsSpec.post enc Try.prog Try.f3 false true false false) := by
  refine returnsInHanded_of_change (C := Try.checked) own started (by kernel_rfl) Try.func3
    (ChangeSpec.witness6 (enc := enc) (C := Try.checked) false ⟨#[], #[.agg #[.int .i64 0, .int .i64 0], .int .i64 0], []⟩ 8 (by kernel_rfl) (by kernel_rfl) (by kernel_rfl) (by kernel_rfl)) ?_
  intro W base args ds gs before hval0 hW hcnd _
  have hval : ∀ (j : Nat) t v, Try.f3.params[j]? = some t → args[j]? = some v → Value.okWide Try.prog W .any base t v := hval0
  have hW' := hW
  obtain ⟨p, q, hA0, hV, rfl, hfz, hnd⟩ := hW
  have hA : DataW.TrodAll enc Try.prog W 0 (fun _ => true) true Try.f3.params.toList args.toList ds p := hA0
  rw [Try.params3] at hA hval
  obtain ⟨v0, vs0, d0, ds0, p0, q0, hargs, rfl, rfl, h0, r0⟩ := trodAll_cons hA
  obtain ⟨v1, vs1, d1, ds1, p1, q1, rfl, rfl, rfl, h1, r1⟩ := trodAll_cons r0
  obtain ⟨rfl, rfl, rfl⟩ := trodAll_nil r1
  obtain rfl : args = #[v0, v1] := by cases args; simp_all
  obtain ⟨rfl, rfl⟩ := trodVars_none hV
  have k0 := h0
  have lt0 : ∀ x ∈ p0, x.block < W.heap.size := by obtain ⟨m, hm⟩ := k0; exact DataW.trod_lt m _ _ _ hm
  obtain ⟨a0_0, a0_1, rfl, w0_0, w0_1⟩ := open_pair Try.underlying23 (by kernel_rfl) (by kernel_rfl) rfl rfl Try.underlying3 (hval 0 23 v0 rfl rfl) h0
  obtain ⟨a1, rfl, rfl, rfl, w1⟩ := open_int Try.underlying3 (hval 1 3 v1 rfl rfl) h1
  clear hA0 hval0
  refine (walk a0_0 a0_1 a1 w0_0 w0_1 w1 W).mono fun e W' ⟨he, bel⟩ => ?_
  subst he
  exact ⟨_, rfl, _, _, _, [], _, [], hW', trodAll_mk1 (shut_bool Try.underlying4 _), (trodAll_cons_mk (Below.trod laidOut (by kernel_rfl) (of_decide_eq_true (by kernel_rfl)) k0 bel lt0) (trodAll_cons_mk (shut_int Try.underlying3 w1) trodAll_mk0)), rfl, bel.frame _, fun h => by cases h⟩
theorem over : Rows.keyAheadsRow.holds Try.pinned (OpenSpec.ofChange Rows.keyAheadsSpec) :=
  OpenClaim.holds_of_wide 3 Try.f3 rfl rfl rfl rfl rfl rfl rfl ⟨rfl, rfl, rfl, rfl, rfl⟩ rfl rfl rfl rfl rfl (by kernel_rfl) Try.func3 (by kernel_rfl)
    (of_decide_eq_true (by kernel_rfl)) (by unfold Func.isWrapper; first | (rw [if_pos (by decide +kernel)]; kernel_rfl) | (rw [if_neg (by decide +kernel)]; exact ⟨rfl, rfl⟩))
    (fun os started H enc _ => lifted os started H enc)
end Go.Proofs.Ytdbnaoddnelebaa.keyAheads
namespace Go.Proofs.Ytdbnaoddnelebaa
theorem keyAheads_holds : Rows.KeyAheadsSaid := keyAheads.over
#print axioms keyAheads_holds
end Go.Proofs.Ytdbnaoddnelebaa
