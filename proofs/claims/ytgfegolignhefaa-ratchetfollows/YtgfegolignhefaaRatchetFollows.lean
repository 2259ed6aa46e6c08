/- For every path and every number: Follow of package ratchet answers what the document says: RatchetFollows, with no condition. -/
import Derived.Test.YtgfegolignhefaaRows
import Derived.Test.YtgfegolignhefaaOpenRt
import Derived.Test.YtgfegolignhefaaRtI
namespace Go.Proofs.Ytgfegolignhefaa.ratchetFollows
open Go.ChangeShapes Go.WideShapes Go.ChangeAt Go.RowKit
set_option linter.unusedVariables false
set_option linter.unusedSimpArgs false

set_option maxRecDepth 100000 in
set_option maxHeartbeats 1000000 in
theorem walk (p : Nat → Ky) (n : Int) (wf : ∀ i, i < 3 → KyWf (p i)) (w1 : (Lit.int .i64 n).wf = true) (w : World) :
    Calls Try.prog 5 #[.agg (pcs p), .int .i64 n] w fun e w' => e = .returned (.bool true) ∧ Below w.heap.size w w' := by
  clear wf w1
  have hK := PaAt.new w p
  have hB := alloc_pa w p
  have h1 := follow_any p n
  have h2 := rFollow_any p n
  unfold FollowA at h1 h2
  obtain ⟨E, hE⟩ : ∃ E, flE p n = E := ⟨_, rfl⟩
  obtain ⟨g, hg⟩ : ∃ g, flA p n = g := ⟨_, rfl⟩
  simp only [hE, hg] at h1 h2
  clear hE hg
  go_enter Try.func5, Try.ntmps5
  go_upto_region 1 with (fail)
  generalize w.alloc (.cells (pcs p) 40) = wa at *
  obtain ⟨cf, hcf⟩ : ∃ cf, pcs p = cf := ⟨_, rfl⟩
  rw [hcf]
  clear hcf
  go_wp2_with fail
  refine (lives_any _).mono ?_
  rintro e w3 ⟨rfl, hb3⟩
  have hK3 := hK.later hb3
  have hB3 := hB.trans (hb3.mono hB.size)
  clear hK hB hb3
  go_upto_region 3 with (fail)
  refine wp_region_lit ?_
  refine ldP hK3 rfl _ rfl rfl ?_
  go_wp2_with fail
  refine (h1 _).mono ?_
  rintro e w6 ⟨rfl, hb6⟩
  have hK6 := hK3.later hb6
  have hB6 := hB3.trans (hb6.mono hB3.size)
  have hz6 := new_zeroP w6
  clear h1 hb6 hK3 hB3
  go_upto_region 4 with (refine stP (g := g) hz6 rfl _ _ rfl rfl rfl ?_)
  rw [alloc_zeroP, World.setRow_alloc_new]
  have hG7 := PaAt.new w6 g
  have hK7 := hK6.later (alloc_pa w6 g)
  have hB7 := hB6.trans ((alloc_pa w6 g).mono hB6.size)
  clear hz6 hK6 hB6
  generalize w6.alloc (.cells (pcs g) 40) = w7 at *
  generalize w6.heap.size = B7 at *
  refine wp_region_lit ?_
  refine ldP hK7 rfl _ rfl rfl ?_
  go_wp2_with fail
  refine (h2 _).mono ?_
  rintro e w8 ⟨rfl, hb8⟩
  have hG8 := hG7.later hb8
  have hB8 := hB7.trans (hb8.mono hB7.size)
  have hz8 := new_zeroP w8
  clear h2 hb8 hK7 hG7 hB7
  go_upto_region 5 with (refine stP (g := g) hz8 rfl _ _ rfl rfl rfl ?_)
  rw [alloc_zeroP, World.setRow_alloc_new]
  have hH9 := PaAt.new w8 g
  have hG9 := hG8.later (alloc_pa w8 g)
  have hB9 := hB8.trans ((alloc_pa w8 g).mono hB8.size)
  clear hz8 hG8 hB8
  generalize w8.alloc (.cells (pcs g) 40) = w9 at *
  generalize w8.heap.size = B9 at *
  have HEQ : eqP g g = true := eqP_refl g
  refine wp_region_lit ?_
  refine ldP hG9 rfl _ rfl rfl ?_
  refine ldP hH9 rfl _ rfl rfl ?_
  refine eqPa HEQ rfl _ _ rfl rfl rfl ?_
  obtain ⟨cg, hcg⟩ : ∃ cg, pcs g = cg := ⟨_, rfl⟩
  rw [hcg]
  go_wp2_with fail
  go_ret
  exact ⟨ret_bool (by simp), hB9⟩
theorem own : ownKnob Try.prog.godebug = none := by kernel_rfl
theorem laidOut : laidOutB Try.prog = true := by kernel_rfl
set_option maxRecDepth 100000 in
theorem lifted (os : Os) (started : os.Started) (H : Type) (enc : TypeId × Value → H) :
    ReturnsInHanded {} Try.checked os 5 .any (Rows.ratchetFollowsSpec.pre6 enc Try.prog Try.f5 Rows.ratchetFollowsRow.domain false) (Rows.ratchetFollowsSpec.post enc Try.prog Try.f5 false true false false) := by
  refine returnsInHanded_of_change (C := Try.checked) own started (by kernel_rfl) Try.func5
    (ChangeSpec.witness6 (enc := enc) (C := Try.checked) false ⟨#[], #[.agg #[.int .i64 0, .int .i64 0, .int .i64 0, .int .i64 0, .int .i64 0, .int .i64 0], .int .i64 0], []⟩ 8 (by kernel_rfl) (by kernel_rfl) (by kernel_rfl) (by kernel_rfl)) ?_
  intro W base args ds gs before hval0 hW hcnd _
  have hval : ∀ (j : Nat) t v, Try.f5.params[j]? = some t → args[j]? = some v → Value.okWide Try.prog W .any base t v := hval0
  have hW' := hW
  obtain ⟨p, q, hA0, hV, rfl, hfz, hnd⟩ := hW
  have hA : DataW.TrodAll enc Try.prog W 0 (fun _ => true) true Try.f5.params.toList args.toList ds p := hA0
  rw [Try.params5] at hA hval
  obtain ⟨v0, vs0, d0, ds0, p0, q0, hargs, rfl, rfl, h0, r0⟩ := trodAll_cons hA
  obtain ⟨v1, vs1, d1, ds1, p1, q1, rfl, rfl, rfl, h1, r1⟩ := trodAll_cons r0
  obtain ⟨rfl, rfl, rfl⟩ := trodAll_nil r1
  obtain rfl : args = #[v0, v1] := by cases args; simp_all
  obtain ⟨rfl, rfl⟩ := trodVars_none hV
  have k0 := h0
  have lt0 : ∀ x ∈ p0, x.block < W.heap.size := by obtain ⟨m, hm⟩ := k0; exact DataW.trod_lt m _ _ _ hm
  obtain ⟨f0, rfl, wf0⟩ := open_pa (hval 0 40 v0 rfl rfl) h0
  obtain ⟨a1, rfl, rfl, rfl, w1⟩ := open_int Try.underlying3 (hval 1 3 v1 rfl rfl) h1
  clear hA0 hval0
  refine (walk f0 a1 wf0 w1 W).mono fun e W' ⟨he, bel⟩ => ?_
  subst he
  exact ⟨_, rfl, _, _, _, [], _, [], hW', trodAll_mk1 (shut_bool Try.underlying4 _), (trodAll_cons_mk (Below.trod laidOut (by kernel_rfl) (of_decide_eq_true (by kernel_rfl)) k0 bel lt0) (trodAll_cons_mk (shut_int Try.underlying3 w1) trodAll_mk0)), rfl, bel.frame _, fun h => by cases h⟩
theorem over : Rows.ratchetFollowsRow.holds Try.pinned (OpenSpec.ofChange Rows.ratchetFollowsSpec) :=
  OpenClaim.holds_of_wide 5 Try.f5 rfl rfl rfl rfl rfl rfl rfl ⟨rfl, rfl, rfl, rfl, rfl⟩ rfl rfl rfl rfl rfl (by kernel_rfl) Try.func5 (by kernel_rfl)
    (of_decide_eq_true (by kernel_rfl)) (by unfold Func.isWrapper; first | (rw [if_pos (by decide +kernel)]; kernel_rfl) | (rw [if_neg (by decide +kernel)]; exact ⟨rfl, rfl⟩))
    (fun os started H enc _ => lifted os started H enc)
end Go.Proofs.Ytgfegolignhefaa.ratchetFollows
namespace Go.Proofs.Ytgfegolignhefaa
theorem ratchetFollows_holds : Rows.RatchetFollowsSaid := ratchetFollows.over
#print axioms ratchetFollows_holds
end Go.Proofs.Ytgfegolignhefaa
