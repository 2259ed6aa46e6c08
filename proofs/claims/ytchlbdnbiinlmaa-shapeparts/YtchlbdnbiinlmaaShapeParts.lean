/- For every number n and every word of slots: the slots of the inner node n modulo 21 are its children's, each once, and the node is above the slots just if it has one of them. No conditions. -/
import Derived.Test.YtchlbdnbiinlmaaRows
import Derived.Test.YtchlbdnbiinlmaaShpJ
import Derived.OpenShut
import Derived.Below
namespace Go.Proofs.Ytchlbdnbiinlmaa.shapeParts
open Go.ChangeShapes Go.WideShapes Go.ChangeAt Go.RowKit
set_option linter.unusedVariables false

def aT (v : Int) : Nat → Int
  | 0 => 0
  | n + 1 => aT v n + msk (chd v n)
theorem parts_all : ∀ v : Fin 21, ∀ i : Fin 4, (msk (chd v.val i.val) == 0) = false ∧ (bits .and .u64 (aT v.val i.val) (msk (chd v.val i.val)) != 0) = false ∧ bits .or .u64 (aT v.val i.val) (msk (chd v.val i.val)) = aT v.val (i.val + 1) := by decide +kernel
theorem whole_all : ∀ v : Fin 21, aT v.val 4 = msk v.val := by decide +kernel
theorem parts (v : Int) (h0 : 0 ≤ v) (h1 : v < 21) (i : Nat) (hi : i < 4) : (msk (chd v i) == 0) = false ∧ (bits .and .u64 (aT v i) (msk (chd v i)) != 0) = false ∧ bits .or .u64 (aT v i) (msk (chd v i)) = aT v (i + 1) := by
  have h := parts_all ⟨v.toNat, by omega⟩ ⟨i, hi⟩
  simpa only [Int.toNat_of_nonneg h0] using h
theorem whole (v : Int) (h0 : 0 ≤ v) (h1 : v < 21) : aT v 4 = msk v := by
  have h := whole_all ⟨v.toNat, by omega⟩
  simpa only [Int.toNat_of_nonneg h0] using h

set_option maxHeartbeats 400000 in
theorem walk (n X : Int) (w0 : (Lit.int .i64 n).wf = true) (w1 : (Lit.int .u64 X).wf = true) (w : World) :
    Calls Try.prog 8 #[.int .i64 n, .int .u64 X] w fun e w' => e = .returned (.bool true) ∧ Below w.heap.size w w' := by
  clear w0
  have hx := bounds_u64 w1
  have h0 : 0 ≤ X := by omega
  have h1 : X < 18446744073709551616 := by omega
  clear w1 hx
  obtain ⟨v, hv, hv0, hv1⟩ := mod_of n 21 (by omega) (by omega)
  have hn : Hid (∀ i : Nat, i < 4 → (msk (chd v i) == 0) = false ∧ (bits .and .u64 (aT v i) (msk (chd v i)) != 0) = false ∧ bits .or .u64 (aT v i) (msk (chd v i)) = aT v (i + 1)) := fun i hi => parts v hv0 hv1 i hi
  have z0 : (msk (chd v 0) == 0) = false := (hn.out 0 (by omega)).1
  have z1 : (msk (chd v 1) == 0) = false := (hn.out 1 (by omega)).1
  have z2 : (msk (chd v 2) == 0) = false := (hn.out 2 (by omega)).1
  have z3 : (msk (chd v 3) == 0) = false := (hn.out 3 (by omega)).1
  have a0 : (bits .and .u64 0 (msk (chd v 0)) != 0) = false := (hn.out 0 (by omega)).2.1
  have a1 : (bits .and .u64 (aT v 1) (msk (chd v 1)) != 0) = false := (hn.out 1 (by omega)).2.1
  have a2 : (bits .and .u64 (aT v 2) (msk (chd v 2)) != 0) = false := (hn.out 2 (by omega)).2.1
  have a3 : (bits .and .u64 (aT v 3) (msk (chd v 3)) != 0) = false := (hn.out 3 (by omega)).2.1
  have o0 : bits .or .u64 0 (msk (chd v 0)) = aT v 1 := (hn.out 0 (by omega)).2.2
  have o1 : bits .or .u64 (aT v 1) (msk (chd v 1)) = aT v 2 := (hn.out 1 (by omega)).2.2
  have o2 : bits .or .u64 (aT v 2) (msk (chd v 2)) = aT v 3 := (hn.out 2 (by omega)).2.2
  have o3 : bits .or .u64 (aT v 3) (msk (chd v 3)) = msk v := (hn.out 3 (by omega)).2.2.trans (whole v hv0 hv1)
  go_enter Try.func8, Try.ntmps8
  go_wp2_with fail
  refine (lives_any _).mono ?_
  rintro e w1 ⟨rfl, hb⟩
  go_wp2_with fail
  refine wp_loop_rounds 5 ?_
  rw [rounds_succ]; go_wp2_with (first | (go_at_call 14; refine (child_any _ _ _).mono ?_; rintro e w' ⟨rfl, rfl⟩) | (go_at_call 28; refine (mask_any _ _).mono ?_; rintro e w' ⟨rfl, rfl⟩) | (go_at_call 30; refine (above_any _ h0 h1 _).mono ?_; rintro e w' ⟨rfl, rfl⟩))
  rw [rounds_succ]; go_wp2_with (first | (go_at_call 14; refine (child_any _ _ _).mono ?_; rintro e w' ⟨rfl, rfl⟩) | (go_at_call 28; refine (mask_any _ _).mono ?_; rintro e w' ⟨rfl, rfl⟩) | (go_at_call 30; refine (above_any _ h0 h1 _).mono ?_; rintro e w' ⟨rfl, rfl⟩))
  rw [rounds_succ]; go_wp2_with (first | (go_at_call 14; refine (child_any _ _ _).mono ?_; rintro e w' ⟨rfl, rfl⟩) | (go_at_call 28; refine (mask_any _ _).mono ?_; rintro e w' ⟨rfl, rfl⟩) | (go_at_call 30; refine (above_any _ h0 h1 _).mono ?_; rintro e w' ⟨rfl, rfl⟩))
  rw [rounds_succ]; go_wp2_with (first | (go_at_call 14; refine (child_any _ _ _).mono ?_; rintro e w' ⟨rfl, rfl⟩) | (go_at_call 28; refine (mask_any _ _).mono ?_; rintro e w' ⟨rfl, rfl⟩) | (go_at_call 30; refine (above_any _ h0 h1 _).mono ?_; rintro e w' ⟨rfl, rfl⟩))
  clear z0 z1 z2 z3 a0 a1 a2 a3 o0 o1 o2 o3 hn hv
  have q1 := abv_hit X v hv0 hv1
  have q2 := hit_and v X h0 h1
  have q3 : (abvTo X 21 / 2097152 == 0) = true := by have := abvTo_bd X 21; simp; omega
  rw [rounds_succ]; go_wp2_with (first | (go_at_call 14; refine (child_any _ _ _).mono ?_; rintro e w' ⟨rfl, rfl⟩) | (go_at_call 28; refine (mask_any _ _).mono ?_; rintro e w' ⟨rfl, rfl⟩) | (go_at_call 30; refine (above_any _ h0 h1 _).mono ?_; rintro e w' ⟨rfl, rfl⟩))
  go_ret
  exact ⟨rfl, hb⟩

theorem own : ownKnob Try.prog.godebug = none := by kernel_rfl
theorem laidOut : laidOutB Try.prog = true := by kernel_rfl
set_option maxRecDepth 100000 in
theorem lifted (os : Os) (started : os.Started) (H : Type) (enc : TypeId × Value → H) :
    ReturnsInHanded {} Try.checked os 8 .any (Rows.shapePartsSpec.pre6 enc Try.prog Try.f8 Rows.shapePartsRow.domain false) (Rows.shapePartsSpec.post enc Try.prog Try.f8 false true false false) := by
  refine returnsInHanded_of_change (C := Try.checked) own started (by kernel_rfl) Try.func8
    (ChangeSpec.witness6 (enc := enc) (C := Try.checked) false ⟨#[], #[.int .i64 0, .int .u64 0], []⟩ 8 (by kernel_rfl) (by kernel_rfl) (by kernel_rfl) (by kernel_rfl)) ?_
  intro W base args ds gs before hval0 hW hcnd _
  have hval : ∀ (j : Nat) t v, Try.f8.params[j]? = some t → args[j]? = some v → Value.okWide Try.prog W .any base t v := hval0
  have hW' := hW
  obtain ⟨p, q, hA0, hV, rfl, hfz, hnd⟩ := hW
  have hA : DataW.TrodAll enc Try.prog W 0 (fun _ => true) true Try.f8.params.toList args.toList ds p := hA0
  rw [Try.params8] at hA hval
  obtain ⟨v0, vs0, d0, ds0, p0, q0, hargs, rfl, rfl, h0, r0⟩ := trodAll_cons hA
  obtain ⟨v1, vs1, d1, ds1, p1, q1, rfl, rfl, rfl, h1, r1⟩ := trodAll_cons r0
  obtain ⟨rfl, rfl, rfl⟩ := trodAll_nil r1
  obtain rfl : args = #[v0, v1] := by cases args; simp_all
  obtain ⟨rfl, rfl⟩ := trodVars_none hV
  obtain ⟨a0, rfl, rfl, rfl, w0⟩ := open_int Try.underlying3 (hval 0 3 v0 rfl rfl) h0
  obtain ⟨a1, rfl, rfl, rfl, w1⟩ := open_int Try.underlying36 (hval 1 36 v1 rfl rfl) h1
  clear hA0 hval0
  refine (walk a0 a1 w0 w1 W).mono fun e W' ⟨he, bel⟩ => ?_
  subst he
  exact ⟨_, rfl, _, _, _, [], _, [], hW', trodAll_mk1 (shut_bool Try.underlying4 _), (trodAll_cons_mk (shut_int Try.underlying3 w0) (trodAll_cons_mk (shut_int Try.underlying36 w1) trodAll_mk0)), rfl, bel.frame _, fun h => by cases h⟩
theorem over : Rows.shapePartsRow.holds Try.pinned (OpenSpec.ofChange Rows.shapePartsSpec) :=
  OpenClaim.holds_of_wide 8 Try.f8 rfl rfl rfl rfl rfl rfl rfl ⟨rfl, rfl, rfl, rfl, rfl⟩ rfl rfl rfl rfl rfl (by kernel_rfl) Try.func8 (by kernel_rfl)
    (of_decide_eq_true (by kernel_rfl)) (by unfold Func.isWrapper; first | (rw [if_pos (by decide +kernel)]; kernel_rfl) | (rw [if_neg (by decide +kernel)]; exact ⟨rfl, rfl⟩))
    (fun os started H enc _ => lifted os started H enc)
end Go.Proofs.Ytchlbdnbiinlmaa.shapeParts
namespace Go.Proofs.Ytchlbdnbiinlmaa
theorem shapeParts_holds : Rows.ShapePartsSaid := shapeParts.over
#print axioms shapeParts_holds
end Go.Proofs.Ytchlbdnbiinlmaa
