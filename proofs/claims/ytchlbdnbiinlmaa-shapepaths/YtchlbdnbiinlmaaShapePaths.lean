/- For every number and every three bytes: Path, Digits and Undigit of package shape answer what the document's own reckoning answers. No conditions. -/
import Derived.Test.YtchlbdnbiinlmaaRows
import Derived.Test.YtchlbdnbiinlmaaShpF
import Derived.Test.YtchlbdnbiinlmaaShpG
import Derived.Test.YtchlbdnbiinlmaaOpen
import Derived.OpenShut
import Derived.Below
import Derived.Deep.RegionHeld3
import Derived.WalkSpells
namespace Go.Proofs.Ytchlbdnbiinlmaa.shapePaths
open Go.ChangeShapes Go.WideShapes Go.ChangeAt Go.RowKit
set_option linter.unusedVariables false

theorem paths_same (s : Int) : ∃ (x y z : Int) (ok : Bool),
    (∀ w, Calls Try.prog 22 #[.int .i64 s] w fun e w' => e = .returned (.tuple #[.agg #[.int .i64 x, .int .i64 y, .int .i64 z], .bool ok]) ∧ Below w.heap.size w w') ∧
    (∀ w, Calls Try.prog 23 #[.int .i64 s] w fun e w' => e = .returned (.tuple #[.agg #[.int .i64 x, .int .i64 y, .int .i64 z], .bool ok]) ∧ Below w.heap.size w w') := by
  by_cases h : 0 ≤ s ∧ s < 64
  · exact ⟨_, _, _, _, path_yes s h.1 h.2, rPath_yes s h.1 h.2⟩
  · exact ⟨_, _, _, _, path_no s (by omega), rPath_no s (by omega)⟩
theorem digits_same (s : Int) : ∃ (x y z : Int) (ok : Bool),
    (∀ w, Calls Try.prog 24 #[.int .i64 s] w fun e w' => e = .returned (.tuple #[.agg #[.int .u8 x, .int .u8 y, .int .u8 z], .bool ok]) ∧ Below w.heap.size w w') ∧
    (∀ w, Calls Try.prog 25 #[.int .i64 s] w fun e w' => e = .returned (.tuple #[.agg #[.int .u8 x, .int .u8 y, .int .u8 z], .bool ok]) ∧ Below w.heap.size w w') := by
  by_cases h : 0 ≤ s ∧ s < 64
  · exact ⟨_, _, _, _, digits_yes s h.1 h.2, rDigits_yes s h.1 h.2⟩
  · exact ⟨_, _, _, _, digits_no s (by omega), rDigits_no s (by omega)⟩

theorem later {w wx : World} {o : Obj} {a : Addr} {v : Value} (hb : Below (w.alloc o).heap.size (w.alloc o) wx) (h : w.cell? a = some v) : wx.cell? a = some v :=
  cell_later hb ((World.cell?_alloc_some _ _ _ (by rw [h]; rfl)).trans h)
theorem newc {w wx : World} {x y z : Value} {t : TypeId} (hb : Below (w.alloc (.cells #[x, y, z] t)).heap.size (w.alloc (.cells #[x, y, z] t)) wx) :
    wx.cell? ⟨w.heap.size, 0, none⟩ = some x ∧ wx.cell? ⟨w.heap.size, 1, none⟩ = some y ∧ wx.cell? ⟨w.heap.size, 2, none⟩ = some z :=
  ⟨cell_later hb (by simp [go_sem]), cell_later hb (by simp [go_sem]), cell_later hb (by simp [go_sem])⟩
theorem grew {w wx : World} {o : Obj} {W : World} (hW : Below W.heap.size W w) (hb : Below (w.alloc o).heap.size (w.alloc o) wx) : Below W.heap.size W wx :=
  (hW.alloc hW.size o).trans (hb.mono (by have := hW.size; simp; omega))

set_option maxHeartbeats 1000000 in
theorem walk (s a b c : Int) (w0 : (Lit.int .i64 s).wf = true) (wa : (Lit.int .u8 a).wf = true) (wb : (Lit.int .u8 b).wf = true) (wc : (Lit.int .u8 c).wf = true) (w : World) :
    Calls Try.prog 5 #[.int .i64 s, .agg #[.int .u8 a, .int .u8 b, .int .u8 c]] w fun e w' => e = .returned (.bool true) ∧ Below w.heap.size w w' := by
  clear w0
  obtain ⟨x, y, z, ok, hP, hR⟩ := paths_same s
  obtain ⟨d0, d1, d2, good, hD, hE⟩ := digits_same s
  have HU : Hid (∀ w, Calls Try.prog 26 #[.agg #[.int .u8 a, .int .u8 b, .int .u8 c]] w fun e w' => e = .returned (.int .i64 (und a b c)) ∧ w' = w.alloc (.cells #[.int .u8 a, .int .u8 b, .int .u8 c] 27)) := by
    intro w; have := bounds_u8 wa; have := bounds_u8 wb; have := bounds_u8 wc; exact undigit_any a b c (by omega) (by omega) (by omega) (by omega) (by omega) (by omega) w
  have HV : Hid (∀ w, Calls Try.prog 27 #[.agg #[.int .u8 a, .int .u8 b, .int .u8 c]] w fun e w' => e = .returned (.int .i64 (und a b c)) ∧ w' = w.alloc (.cells #[.int .u8 a, .int .u8 b, .int .u8 c] 27)) := by
    intro w; have := bounds_u8 wa; have := bounds_u8 wb; have := bounds_u8 wc; exact rUndigit_any a b c (by omega) (by omega) (by omega) (by omega) (by omega) (by omega) w
  clear wa wb wc
  have e1 : ∀ w, (Op.equalIn 10000 28 (.agg #[.int .i64 x, .int .i64 y, .int .i64 z]) (.agg #[.int .i64 x, .int .i64 y, .int .i64 z])).run Try.prog w = .ok true w := fun w => by rw [eqArr3]; simp
  have e2 : ∀ w, (Op.equalIn 10000 27 (.agg #[.int .u8 d0, .int .u8 d1, .int .u8 d2]) (.agg #[.int .u8 d0, .int .u8 d1, .int .u8 d2])).run Try.prog w = .ok true w := fun w => by rw [eqArr3u]; simp
  have HP := hP; clear hP
  go_enter Try.func5, Try.ntmps5
  go_wp2_with fail
  refine (lives_any _).mono ?_
  rintro e w1 ⟨rfl, hb1⟩
  go_wp2_with fail
  refine (HP _).mono ?_
  rintro e w2 ⟨rfl, hb2⟩
  go_wp2_with fail
  refine (hR _).mono ?_
  rintro e w3 ⟨rfl, hb3⟩
  go_wp2_with fail
  refine (hD _).mono ?_
  rintro e w4 ⟨rfl, hb4⟩
  go_wp2_with fail
  refine (hE _).mono ?_
  rintro e w5 ⟨rfl, hb5⟩
  clear HP hR hD hE
  obtain ⟨a0, a1, a2⟩ := newc hb1
  have a0 := later hb5 (later hb4 (later hb3 (cell_later hb2 a0)))
  have a1 := later hb5 (later hb4 (later hb3 (cell_later hb2 a1)))
  have a2 := later hb5 (later hb4 (later hb3 (cell_later hb2 a2)))
  obtain ⟨p0, p1, p2⟩ := newc hb3
  have p0 := later hb5 (later hb4 p0)
  have p1 := later hb5 (later hb4 p1)
  have p2 := later hb5 (later hb4 p2)
  obtain ⟨q0, q1, q2⟩ := newc hb4
  have q0 := later hb5 q0
  have q1 := later hb5 q1
  have q2 := later hb5 q2
  obtain ⟨r0, r1, r2⟩ := newc hb5
  have B5 : Hid (Below w.heap.size w w5) := grew (grew (grew ((grew (Below.refl _ _) hb1).trans (hb2.mono (grew (Below.refl _ _) hb1).size)) hb3) hb4) hb5
  clear hb1 hb2 hb3 hb4 hb5
  have n0 := World.new_ne w5 _ a0
  have n1 := World.new_ne w5 _ p0
  have n2 := World.new_ne w5 _ q0
  have n3 := World.new_ne w5 _ r0
  go_wp2_with fail
  go_region_held3 (fun w' => w'.cell? ⟨w.heap.size, 0, none⟩ = some (.int .u8 a) ∧ w'.cell? ⟨w.heap.size, 1, none⟩ = some (.int .u8 b) ∧ w'.cell? ⟨w.heap.size, 2, none⟩ = some (.int .u8 c) ∧ w'.cell? ⟨w2.heap.size, 0, none⟩ = some (.int .i64 x) ∧ w'.cell? ⟨w2.heap.size, 1, none⟩ = some (.int .i64 y) ∧ w'.cell? ⟨w2.heap.size, 2, none⟩ = some (.int .i64 z) ∧ w'.cell? ⟨w3.heap.size, 0, none⟩ = some (.int .i64 x) ∧ w'.cell? ⟨w3.heap.size, 1, none⟩ = some (.int .i64 y) ∧ w'.cell? ⟨w3.heap.size, 2, none⟩ = some (.int .i64 z) ∧ w'.cell? ⟨w4.heap.size, 0, none⟩ = some (.int .u8 d0) ∧ w'.cell? ⟨w4.heap.size, 1, none⟩ = some (.int .u8 d1) ∧ w'.cell? ⟨w4.heap.size, 2, none⟩ = some (.int .u8 d2) ∧ w'.cell? ⟨w5.heap.size, 0, none⟩ = some (.int .u8 d0) ∧ w'.cell? ⟨w5.heap.size, 1, none⟩ = some (.int .u8 d1) ∧ w'.cell? ⟨w5.heap.size, 2, none⟩ = some (.int .u8 d2)) (simp (maxDischargeDepth := 8) [*, World.cell?_alloc_some]) (first
    | (go_at_call 26; refine (HU.out _).mono ?_; rintro e w' ⟨rfl, rfl⟩)
    | (go_at_call 27; refine (HV.out _).mono ?_; rintro e w' ⟨rfl, rfl⟩))
  go_wp2
  go_ret
  exact ⟨rfl, (((B5.out.alloc B5.out.size _).alloc (by have := B5.out.size; simp; omega) _).alloc (by have := B5.out.size; simp; omega) _).drew⟩

theorem own : ownKnob Try.prog.godebug = none := by kernel_rfl
theorem laidOut : laidOutB Try.prog = true := by kernel_rfl
set_option maxRecDepth 100000 in
theorem lifted (os : Os) (started : os.Started) (H : Type) (enc : TypeId × Value → H) :
    ReturnsInHanded {} Try.checked os 5 .any (Rows.shapePathsSpec.pre6 enc Try.prog Try.f5 Rows.shapePathsRow.domain false) (Rows.shapePathsSpec.post enc Try.prog Try.f5 false true false false) := by
  refine returnsInHanded_of_change (C := Try.checked) own started (by kernel_rfl) Try.func5
    (ChangeSpec.witness6 (enc := enc) (C := Try.checked) false ⟨#[], #[.int .i64 0, .agg #[.int .u8 0, .int .u8 0, .int .u8 0]], []⟩ 8 (by kernel_rfl) (by kernel_rfl) (by kernel_rfl) (by kernel_rfl)) ?_
  intro W base args ds gs before hval0 hW hcnd _
  have hval : ∀ (j : Nat) t v, Try.f5.params[j]? = some t → args[j]? = some v → Value.okWide Try.prog W .any base t v := hval0
  have hW' := hW
  obtain ⟨p, q, hA0, hV, rfl, hfz, hnd⟩ := hW
  have hA : DataW.TrodAll enc Try.prog W 0 (fun _ => true) true Try.f5.params.toList args.toList ds p := hA0
  rw [Try.params5] at hA hval
  obtain ⟨v0, vs0, d0, ds0, p0, q0, hargs, rfl, rfl, h0, r0⟩ := trodAll_cons hA
  obtain ⟨v1, vs1, d1, ds1, p1, q1, rfl, rfl, rfl, h1, r1⟩ := trodAll_cons r0
  obtain ⟨rfl, rfl, rfl⟩ := trodAll_nil r1
  obtain rfl : args = #[v0, v1] := by cases args; simp_all
  obtain ⟨rfl, rfl⟩ := trodVars_none hV
  obtain ⟨a0, rfl, rfl, rfl, w0⟩ := open_int Try.underlying3 (hval 0 3 v0 rfl rfl) h0
  have k1 := h1
  have lt1 : ∀ x ∈ p1, x.block < W.heap.size := by obtain ⟨m, hm⟩ := k1; exact DataW.trod_lt m _ _ _ hm
  obtain ⟨a1_0, a1_1, a1_2, rfl, w1_0, w1_1, w1_2⟩ := open_arr3 Try.underlying27 Try.underlying5 (by kernel_rfl) (by kernel_rfl) (hval 1 27 v1 rfl rfl) h1
  clear hA0 hval0
  refine (walk a0 a1_0 a1_1 a1_2 w0 w1_0 w1_1 w1_2 W).mono fun e W' ⟨he, bel⟩ => ?_
  subst he
  exact ⟨_, rfl, _, _, _, [], _, [], hW', trodAll_mk1 (shut_bool Try.underlying4 _), (trodAll_cons_mk (shut_int Try.underlying3 w0) (trodAll_cons_mk (Below.trod laidOut (by kernel_rfl) (of_decide_eq_true (by kernel_rfl)) k1 bel lt1) trodAll_mk0)), rfl, bel.frame _, fun h => by cases h⟩
theorem over : Rows.shapePathsRow.holds Try.pinned (OpenSpec.ofChange Rows.shapePathsSpec) :=
  OpenClaim.holds_of_wide 5 Try.f5 rfl rfl rfl rfl rfl rfl rfl ⟨rfl, rfl, rfl, rfl, rfl⟩ rfl rfl rfl rfl rfl (by kernel_rfl) Try.func5 (by kernel_rfl)
    (of_decide_eq_true (by kernel_rfl)) (by unfold Func.isWrapper; first | (rw [if_pos (by decide +kernel)]; kernel_rfl) | (rw [if_neg (by decide +kernel)]; exact ⟨rfl, rfl⟩))
    (fun os started H enc _ => lifted os started H enc)
end Go.Proofs.Ytchlbdnbiinlmaa.shapePaths
namespace Go.Proofs.Ytchlbdnbiinlmaa
theorem shapePaths_holds : Rows.ShapePathsSaid := shapePaths.over
#print axioms shapePaths_holds
end Go.Proofs.Ytchlbdnbiinlmaa
