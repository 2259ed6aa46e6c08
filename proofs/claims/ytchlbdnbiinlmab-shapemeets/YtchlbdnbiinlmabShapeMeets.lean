/- For every two numbers: Below and Meet of package shape answer what the document's own reckoning answers; where two nodes meet both lie, and below none of its children do both. No conditions. -/
import Derived.Test.YtchlbdnbiinlmabRows
import Derived.Test.YtchlbdnbiinlmabShpK
import Derived.OpenShut
import Derived.Below
namespace Go.Proofs.Ytchlbdnbiinlmab.shapeMeets
open Go.ChangeShapes Go.WideShapes Go.ChangeAt Go.RowKit
set_option linter.unusedVariables false

theorem meets_all : ∀ a b : Fin 85, 0 ≤ mee a.val b.val ∧ mee a.val b.val < 85 ∧ belB (mee a.val b.val) a.val = true ∧ belB (mee a.val b.val) b.val = true ∧
    belB a.val b.val = (mee a.val b.val == a.val) ∧ ∀ i : Fin 4, (belB (chd (mee a.val b.val) i.val) a.val && belB (chd (mee a.val b.val) i.val) b.val) = false := by decide +kernel
theorem meets (a b : Int) (h0 : 0 ≤ a) (h1 : a < 85) (h2 : 0 ≤ b) (h3 : b < 85) : 0 ≤ mee a b ∧ mee a b < 85 ∧ belB (mee a b) a = true ∧ belB (mee a b) b = true ∧
    belB a b = (mee a b == a) ∧ ∀ i : Fin 4, (belB (chd (mee a b) i.val) a && belB (chd (mee a b) i.val) b) = false := by
  have h := meets_all ⟨a.toNat, by omega⟩ ⟨b.toNat, by omega⟩
  simpa only [Int.toNat_of_nonneg h0, Int.toNat_of_nonneg h2] using h

set_option maxHeartbeats 400000 in
theorem walk (v u : Int) (w0 : (Lit.int .i64 v).wf = true) (w1 : (Lit.int .i64 u).wf = true) (w : World) :
    Calls Try.prog 3 #[.int .i64 v, .int .i64 u] w fun e w' => e = .returned (.bool true) ∧ Below w.heap.size w w' := by
  clear w0 w1
  obtain ⟨a, ha, ha0, ha1⟩ := mod_of v 85 (by omega) (by omega)
  obtain ⟨b, hb, hb0, hb1⟩ := mod_of u 85 (by omega) (by omega)
  obtain ⟨hm0, hm1, ma, mb, mab, mc⟩ := meets a b ha0 ha1 hb0 hb1
  have hcomm := mee_comm hb0 hb1 ha0 ha1
  have HC : Hid (∀ i : Fin 4, (belB (chd (mee a b) i.val) a && belB (chd (mee a b) i.val) b) = false) := mc
  clear mc
  go_enter Try.func3, Try.ntmps3
  go_wp2_with fail
  refine (lives_any _).mono ?_
  rintro e w1 ⟨rfl, hbl⟩
  go_wp2_with (first
    | (go_at_call 5; refine (below_any _ _ _).mono ?_; rintro e w' ⟨rfl, rfl⟩)
    | (go_at_call 6; refine (rBelow_any _ _ _).mono ?_; rintro e w' ⟨rfl, rfl⟩)
    | (go_at_call 7; refine (meet_any _ _ _).mono ?_; rintro e w' ⟨rfl, rfl⟩)
    | (go_at_call 8; refine (rMeet_any _ _ _).mono ?_; rintro e w' ⟨rfl, rfl⟩))
  clear ha hb ma mb mab hcomm
  go_loop [8, 9] (fun i _ => ∃ k : Nat, k ≤ 4 ∧ i = .int .i64 k) (fun i _ => 4 - (intOf i).toNat)
  case atStart => exact ⟨0, by omega, rfl⟩
  case round =>
    obtain ⟨k, hk, rfl⟩ := hrel
    by_cases hlt : k < 4
    · have hc := HC.out ⟨k, hlt⟩
      by_cases hn : 0 ≤ chd (mee a b) k
      · cases hA : belB (chd (mee a b) k) a
        · clear hc
          go_wp2_with (first | (go_at_call 9; refine (child_any _ _ _).mono ?_; rintro e w' ⟨rfl, rfl⟩) | (go_at_call 5; refine (below_any _ _ _).mono ?_; rintro e w' ⟨rfl, rfl⟩))
          go_round
          case rel => exact ⟨k + 1, by omega, by go_num⟩
          case measure => simp [intOf]; omega
        · have hB : belB (chd (mee a b) k) b = false := by rw [hA] at hc; simpa using hc
          clear hc
          go_wp2_with (first | (go_at_call 9; refine (child_any _ _ _).mono ?_; rintro e w' ⟨rfl, rfl⟩) | (go_at_call 5; refine (below_any _ _ _).mono ?_; rintro e w' ⟨rfl, rfl⟩))
          go_round
          case rel => exact ⟨k + 1, by omega, by go_num⟩
          case measure => simp [intOf]; omega
      · clear hc
        go_wp2_with (first | (go_at_call 9; refine (child_any _ _ _).mono ?_; rintro e w' ⟨rfl, rfl⟩) | (go_at_call 5; refine (below_any _ _ _).mono ?_; rintro e w' ⟨rfl, rfl⟩))
        go_round
        case rel => exact ⟨k + 1, by omega, by go_num⟩
        case measure => simp [intOf]; omega
    · go_wp2
      go_ret
      exact ⟨rfl, hbl⟩

theorem own : ownKnob Try.prog.godebug = none := by kernel_rfl
theorem laidOut : laidOutB Try.prog = true := by kernel_rfl
set_option maxRecDepth 100000 in
theorem lifted (os : Os) (started : os.Started) (H : Type) (enc : TypeId × Value → H) :
    ReturnsInHanded {} Try.checked os 3 .any (Rows.shapeMeetsSpec.pre6 enc Try.prog Try.f3 Rows.shapeMeetsRow.domain false) (Rows.shapeMeetsSpec.post enc Try.prog Try.f3 false true false false) := by
  refine returnsInHanded_of_change (C := Try.checked) own started (by kernel_rfl) Try.func3
    (ChangeSpec.witness6 (enc := enc) (C := Try.checked) false ⟨#[], #[.int .i64 0, .int .i64 0], []⟩ 8 (by kernel_rfl) (by kernel_rfl) (by kernel_rfl) (by kernel_rfl)) ?_
  intro W base args ds gs before hval0 hW hcnd _
  have hval : ∀ (j : Nat) t v, Try.f3.params[j]? = some t → args[j]? = some v → Value.okWide Try.prog W .any base t v := hval0
  have hW' := hW
  obtain ⟨p, q, hA0, hV, rfl, hfz, hnd⟩ := hW
  have hA : DataW.TrodAll enc Try.prog W 0 (fun _ => true) true Try.f3.params.toList args.toList ds p := hA0
  rw [Try.params3] at hA hval
  obtain ⟨v0, vs0, d0, ds0, p0, q0, hargs, rfl, rfl, h0, r0⟩ := trodAll_cons hA
  obtain ⟨v1, vs1, d1, ds1, p1, q1, rfl, rfl, rfl, h1, r1⟩ := trodAll_cons r0
  obtain ⟨rfl, rfl, rfl⟩ := trodAll_nil r1
  obtain rfl : args = #[v0, v1] := by cases args; simp_all
  obtain ⟨rfl, rfl⟩ := trodVars_none hV
  obtain ⟨a0, rfl, rfl, rfl, w0⟩ := open_int Try.underlying3 (hval 0 3 v0 rfl rfl) h0
  obtain ⟨a1, rfl, rfl, rfl, w1⟩ := open_int Try.underlying3 (hval 1 3 v1 rfl rfl) h1
  clear hA0 hval0
  refine (walk a0 a1 w0 w1 W).mono fun e W' ⟨he, bel⟩ => ?_
  subst he
  exact ⟨_, rfl, _, _, _, [], _, [], hW', trodAll_mk1 (shut_bool Try.underlying4 _), (trodAll_cons_mk (shut_int Try.underlying3 w0) (trodAll_cons_mk (shut_int Try.underlying3 w1) trodAll_mk0)), rfl, bel.frame _, fun h => by cases h⟩
theorem over : Rows.shapeMeetsRow.holds Try.pinned (OpenSpec.ofChange Rows.shapeMeetsSpec) :=
  OpenClaim.holds_of_wide 3 Try.f3 rfl rfl rfl rfl rfl rfl rfl ⟨rfl, rfl, rfl, rfl, rfl⟩ rfl rfl rfl rfl rfl (by kernel_rfl) Try.func3 (by kernel_rfl)
    (of_decide_eq_true (by kernel_rfl)) (by unfold Func.isWrapper; first | (rw [if_pos (by decide +kernel)]; kernel_rfl) | (rw [if_neg (by decide +kernel)]; exact ⟨rfl, rfl⟩))
    (fun os started H enc _ => lifted os started H enc)
end Go.Proofs.Ytchlbdnbiinlmab.shapeMeets
namespace Go.Proofs.Ytchlbdnbiinlmab
theorem shapeMeets_holds : Rows.ShapeMeetsSaid := shapeMeets.over
#print axioms shapeMeets_holds
end Go.Proofs.Ytchlbdnbiinlmab
