/- For every number n, the path of the slot n modulo 64 rises to the root, and the slot's digits lead down again to its leaf. No conditions. -/
import Derived.Test.YtchlbdnbiinlmaaRows
import Derived.Test.YtchlbdnbiinlmaaShpF
import Derived.Test.YtchlbdnbiinlmaaShpG
import Derived.OpenShut
import Derived.Below
import Derived.Deep.RegionHeld3
namespace Go.Proofs.Ytchlbdnbiinlmaa.shapeWays
open Go.ChangeShapes Go.WideShapes Go.ChangeAt Go.RowKit
set_option linter.unusedVariables false

theorem undigit_of (s : Int) (h0 : 0 ≤ s) (h1 : s < 64) (w : World) :
    Calls Try.prog 26 #[.agg #[.int .u8 (s / 16), .int .u8 (s / 4 % 4), .int .u8 (s % 4)]] w fun e w' => e = .returned (.int .i64 s) ∧ w' = w.alloc (.cells #[.int .u8 (s / 16), .int .u8 (s / 4 % 4), .int .u8 (s % 4)] 27) := by
  have h : und (s / 16) (s / 4 % 4) (s % 4) = s := by rw [und_yes (by omega) (by omega) (by omega) (by omega) (by omega) (by omega)]; omega
  have := undigit_any (s / 16) (s / 4 % 4) (s % 4) (by omega) (by omega) (by omega) (by omega) (by omega) (by omega) w
  rwa [h] at this
theorem leaf_yes (v : Int) (h0 : 0 ≤ v) (h1 : v < 64) (w : World) :
    Calls Try.prog 20 #[.int .i64 v] w fun e w' => e = .returned (.int .i64 (21 + v)) ∧ w' = w := by
  rw [← lef_yes h0 h1]; exact leaf_any v w
theorem parent_leaf (s : Int) (h0 : 0 ≤ s) (h1 : s < 64) (w : World) :
    Calls Try.prog 12 #[.int .i64 (21 + s)] w fun e w' => e = .returned (.int .i64 (5 + s / 4)) ∧ w' = w := by
  have h : par (21 + s) = 5 + s / 4 := by rw [par_yes (by omega) (by omega)]; omega
  rw [← h]; exact parent_any (21 + s) w

set_option maxHeartbeats 1000000 in
theorem walk (n : Int) (w0 : (Lit.int .i64 n).wf = true) (w : World) :
    Calls Try.prog 6 #[.int .i64 n] w fun e w' => e = .returned (.bool true) ∧ Below w.heap.size w w' := by
  clear w0
  obtain ⟨s, hs, h0, h1⟩ := mod_of n 64 (by omega) (by omega)
  go_enter Try.func6, Try.ntmps6
  go_wp2_with fail
  refine (lives_any _).mono ?_
  rintro e w1 ⟨rfl, hb1⟩
  go_wp2_with fail
  refine (path_yes _ h0 h1 _).mono ?_
  rintro e w2 ⟨rfl, hb2⟩
  go_wp2_with fail
  refine (digits_yes _ h0 h1 _).mono ?_
  rintro e w3 ⟨rfl, hb3⟩
  obtain ⟨hc3, hf3⟩ := bcell hb3
  have hz3 : w2.heap.size < w3.heap.size := by have := hb3.size; simp at this; omega
  have B3 : Hid (Below w.heap.size w w3) := (hb1.trans ((hb2.mono hb1.size).trans (((Below.refl _ _).alloc (Nat.le_trans hb1.size hb2.size) _).trans (hb3.mono (by have := hb1.size; have := hb2.size; simp; omega)))))
  clear hb3
  have p0 : w3.cell? ⟨w2.heap.size, 0, none⟩ = some (.int .i64 (5 + s / 4)) := by rw [hc3 _ _ (by simp)]; simp [go_sem]
  have p1 : w3.cell? ⟨w2.heap.size, 1, none⟩ = some (.int .i64 (1 + s / 16)) := by rw [hc3 _ _ (by simp)]; simp [go_sem]
  have p2 : w3.cell? ⟨w2.heap.size, 2, none⟩ = some (.int .i64 0) := by rw [hc3 _ _ (by simp)]; simp [go_sem]
  have n0 := World.new_ne w3 _ p0
  clear hc3 hf3
  go_wp2_with fail
  clear hs
  go_region_held3 (fun w' => w'.cell? ⟨w2.heap.size, 0, none⟩ = some (.int .i64 (5 + s / 4)) ∧ w'.cell? ⟨w2.heap.size, 2, none⟩ = some (.int .i64 0) ∧ w'.cell? ⟨w3.heap.size, 0, none⟩ = some (.int .u8 (s / 16)) ∧ w'.cell? ⟨w3.heap.size, 1, none⟩ = some (.int .u8 (s / 4 % 4)) ∧ w'.cell? ⟨w3.heap.size, 2, none⟩ = some (.int .u8 (s % 4))) (go_keep) (first
    | (go_at_call 26; refine (undigit_of _ h0 h1 _).mono ?_; rintro e w' ⟨rfl, rfl⟩)
    | (go_at_call 20; refine (leaf_yes _ h0 h1 _).mono ?_; rintro e w' ⟨rfl, rfl⟩)
    | (go_at_call 12; refine (parent_leaf _ h0 h1 _).mono ?_; rintro e w' ⟨rfl, rfl⟩))
  have q1 : 4 * (1 + s / 16) + 1 + s / 4 % 4 = 5 + s / 4 := by omega
  have q2 : 4 * (5 + s / 4) + 1 + s % 4 = 21 + s := by omega
  go_wp2_with fail
  refine wp_loop_rounds 4 ?_
  rw [rounds_succ]; go_wp2_with (go_at_call 14; refine (child_yes _ _ (by omega) (by omega) (by omega) (by omega) _).mono ?_; rintro e w' ⟨rfl, rfl⟩)
  rw [rounds_succ]; go_wp2_with (go_at_call 14; refine (child_yes _ _ (by omega) (by omega) (by omega) (by omega) _).mono ?_; rintro e w' ⟨rfl, rfl⟩)
  rw [rounds_succ]; go_wp2_with (go_at_call 14; refine (child_yes _ _ (by omega) (by omega) (by omega) (by omega) _).mono ?_; rintro e w' ⟨rfl, rfl⟩)
  rw [rounds_succ]; go_wp2_with (go_at_call 20; refine (leaf_yes _ h0 h1 _).mono ?_; rintro e w' ⟨rfl, rfl⟩)
  go_ret
  exact ⟨rfl, ((B3.out.alloc B3.out.size _).alloc (by have := B3.out.size; simp; omega) _).drew⟩

theorem own : ownKnob Try.prog.godebug = none := by kernel_rfl
theorem laidOut : laidOutB Try.prog = true := by kernel_rfl
set_option maxRecDepth 100000 in
theorem lifted (os : Os) (started : os.Started) (H : Type) (enc : TypeId × Value → H) :
    ReturnsInHanded {} Try.checked os 6 .any (Rows.shapeWaysSpec.pre6 enc Try.prog Try.f6 Rows.shapeWaysRow.domain false) (Rows.shapeWaysSpec.post enc Try.prog Try.f6 false true false false) := by
  refine returnsInHanded_of_change (C := Try.checked) own started (by kernel_rfl) Try.func6
    (ChangeSpec.witness6 (enc := enc) (C := Try.checked) false ⟨#[], #[.int .i64 0], []⟩ 8 (by kernel_rfl) (by kernel_rfl) (by kernel_rfl) (by kernel_rfl)) ?_
  intro W base args ds gs before hval0 hW hcnd _
  have hval : ∀ (j : Nat) t v, Try.f6.params[j]? = some t → args[j]? = some v → Value.okWide Try.prog W .any base t v := hval0
  have hW' := hW
  obtain ⟨p, q, hA0, hV, rfl, hfz, hnd⟩ := hW
  have hA : DataW.TrodAll enc Try.prog W 0 (fun _ => true) true Try.f6.params.toList args.toList ds p := hA0
  rw [Try.params6] at hA hval
  obtain ⟨v0, vs0, d0, ds0, p0, q0, hargs, rfl, rfl, h0, r0⟩ := trodAll_cons hA
  obtain ⟨rfl, rfl, rfl⟩ := trodAll_nil r0
  obtain rfl : args = #[v0] := by cases args; simp_all
  obtain ⟨rfl, rfl⟩ := trodVars_none hV
  obtain ⟨a0, rfl, rfl, rfl, w0⟩ := open_int Try.underlying3 (hval 0 3 v0 rfl rfl) h0
  clear hA0 hval0
  refine (walk a0 w0 W).mono fun e W' ⟨he, bel⟩ => ?_
  subst he
  exact ⟨_, rfl, _, _, _, [], _, [], hW', trodAll_mk1 (shut_bool Try.underlying4 _), (trodAll_cons_mk (shut_int Try.underlying3 w0) trodAll_mk0), rfl, bel.frame _, fun h => by cases h⟩
theorem over : Rows.shapeWaysRow.holds Try.pinned (OpenSpec.ofChange Rows.shapeWaysSpec) :=
  OpenClaim.holds_of_wide 6 Try.f6 rfl rfl rfl rfl rfl rfl rfl ⟨rfl, rfl, rfl, rfl, rfl⟩ rfl rfl rfl rfl rfl (by kernel_rfl) Try.func6 (by kernel_rfl)
    (of_decide_eq_true (by kernel_rfl)) (by unfold Func.isWrapper; first | (rw [if_pos (by decide +kernel)]; kernel_rfl) | (rw [if_neg (by decide +kernel)]; exact ⟨rfl, rfl⟩))
    (fun os started H enc _ => lifted os started H enc)
end Go.Proofs.Ytchlbdnbiinlmaa.shapeWays
namespace Go.Proofs.Ytchlbdnbiinlmaa
theorem shapeWays_holds : Rows.ShapeWaysSaid := shapeWays.over
#print axioms shapeWays_holds
end Go.Proofs.Ytchlbdnbiinlmaa
