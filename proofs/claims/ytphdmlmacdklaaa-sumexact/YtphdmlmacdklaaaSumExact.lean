/- For every number and every text: Sum, Extend, Bytes, Unbytes and Hex of package sum answer what the document's own reckoning answers, and the fixed answers stand. No conditions. -/
import Derived.Test.YtphdmlmacdklaaaRows
import Derived.Test.YtphdmlmacdklaaaSumC
import Derived.OpenShut
import Derived.SizedLaws
import Derived.ChangeMaps5
namespace Go.Proofs.Ytphdmlmacdklaaa.sumExact
open Go.ChangeShapes Go.WideShapes Go.ChangeAt Go.RowKit
set_option linter.unusedVariables false

set_option maxHeartbeats 2000000 in
theorem walk (a0 : Int) (s : ByteArray) (w0 : (Lit.int .u32 a0).wf = true) (hl : s.size ≤ 140737488351232) (w : World) :
    Calls Try.prog 3 #[.int .u32 a0, .string s] w fun e w' => e = .returned (.bool true) ∧ Below w.heap.size w w' := by
  have hx := bounds_u32 w0
  clear w0
  obtain ⟨n, rfl⟩ : ∃ n : Nat, a0 = (n : Int) := ⟨a0.toNat, by omega⟩
  have hn : n < 4294967296 := by omega
  have hs : s.size ≤ 281474976710656 := by omega
  clear hx hl
  go_enter Try.func3, Try.ntmps3
  go_wp2_with fail
  refine (lives_any _).mono ?_
  rintro e w1 ⟨rfl, hb1⟩
  have HB1 : Hid (Below w.heap.size w w1) := hb1
  clear hb1
  obtain ⟨A, hA⟩ : ∃ A, ext 0 s.data.toList = A := ⟨_, rfl⟩
  obtain ⟨B, hB⟩ : ∃ B, ext n s.data.toList = B := ⟨_, rfl⟩
  obtain ⟨U, hU⟩ : ∃ U, un s = U := ⟨_, rfl⟩
  obtain ⟨V, hV⟩ : ∃ V, ue s = V := ⟨_, rfl⟩
  obtain ⟨X, hX⟩ : ∃ X, tx (b4 n) = X := ⟨_, rfl⟩
  obtain ⟨Y, hY⟩ : ∃ Y, tx (Go.Proofs.Ytphdmlmacdklaaa.hx n) = Y := ⟨_, rfl⟩
  have HE : Hid (ext 0 s.data.toList = A ∧ ext n s.data.toList = B ∧ un s = U ∧ ue s = V ∧ tx (b4 n) = X ∧ tx (Go.Proofs.Ytphdmlmacdklaaa.hx n) = Y) := ⟨hA, hB, hU, hV, hX, hY⟩
  clear hA hB hU hV hX hY
  go_wp2_with fail
  refine (sum_any s _ hs).mono ?_
  rintro e w2 ⟨rfl, rfl⟩
  rw [HE.out.1]
  go_wp2_with fail
  refine (rSum_any s _ hs).mono ?_
  rintro e w2 ⟨rfl, rfl⟩
  rw [HE.out.1]
  go_wp2_with fail
  refine (ext_any n s _ hn hs).mono ?_
  rintro e w2 ⟨rfl, rfl⟩
  rw [HE.out.2.1]
  go_wp2_with fail
  refine (rExt_any n s _ hn hs).mono ?_
  rintro e w2 ⟨rfl, rfl⟩
  rw [HE.out.2.1]
  go_wp2_with fail
  refine (unb_any s _ hs).mono ?_
  rintro e w2 ⟨rfl, rfl⟩
  rw [HE.out.2.2.1, HE.out.2.2.2.1]
  go_wp2_with fail
  refine (rUnb_any s _ hs).mono ?_
  rintro e w2 ⟨rfl, rfl⟩
  rw [HE.out.2.2.1, HE.out.2.2.2.1]
  go_wp2_with fail
  refine (bytes_any n _ hn).mono ?_
  rintro e w2 ⟨rfl, hb2⟩
  rw [HE.out.2.2.2.2.1]
  have HB2 : Hid (Below w.heap.size w w2) := HB1.out.trans (hb2.mono HB1.out.size)
  clear hb2 HB1
  go_wp2_with fail
  refine (rBytes_any n _ hn).mono ?_
  rintro e w3 ⟨rfl, hb3⟩
  rw [HE.out.2.2.2.2.1]
  have HB3 : Hid (Below w.heap.size w w3) := HB2.out.trans (hb3.mono HB2.out.size)
  clear hb3 HB2
  go_wp2_with fail
  refine (hex_any n _ hn).mono ?_
  rintro e w4 ⟨rfl, hb4⟩
  rw [HE.out.2.2.2.2.2]
  have HB4 : Hid (Below w.heap.size w w4) := HB3.out.trans (hb4.mono HB3.out.size)
  clear hb4 HB3
  go_wp2_with fail
  refine (rHex_any n _ hn).mono ?_
  rintro e w5 ⟨rfl, rfl⟩
  rw [HE.out.2.2.2.2.2]
  go_wp2_with fail
  go_ret
  exact ⟨ret_bool (by simp), HB4.out⟩
theorem own : ownKnob Try.prog.godebug = none := by kernel_rfl
theorem laidOut : laidOutB Try.prog = true := by kernel_rfl
theorem text_reach {s : ByteArray} (h : s.data.toList.length ≤ reachBytes) : s.size ≤ 140737488351232 := by
  have e2 : s.data.toList.length = s.data.size := Array.length_toList
  have e1 : s.size = s.data.size := rfl
  unfold reachBytes at h
  omega
set_option maxRecDepth 100000 in
theorem lifted (os : Os) (started : os.Started) (H : Type) (enc : TypeId × Value → H) :
    ReturnsInHanded {} Try.checked os 3 .any (Rows.sumExactSpec.pre6 enc Try.prog Try.f3 Rows.sumExactRow.domain false) (Rows.sumExactSpec.post enc Try.prog Try.f3 false true false false) := by
  refine returnsInHanded_of_change_sized (C := Try.checked) own started (by kernel_rfl) Try.func3
    (ChangeSpec.witness6 (enc := enc) (C := Try.checked) false ⟨#[], #[.int .u32 0, .string ⟨#[]⟩], []⟩ 8 (by kernel_rfl) (by kernel_rfl) (by kernel_rfl) (by kernel_rfl)) ?_
  intro W base args ds gs before hval0 hW hcnd hsz0 _
  have hsz : (DataW.weightsEach Try.prog (Try.f3.params.toList ++ Rows.sumExactSpec.plain.varTypes Try.prog) (ds ++ gs)).all (· ≤ reachBytes) = true := hsz0
  clear hsz0
  have hval : ∀ (j : Nat) t v, Try.f3.params[j]? = some t → args[j]? = some v → Value.okWide Try.prog W .any base t v := hval0
  have hW' := hW
  obtain ⟨p, q, hA0, hV, rfl, hfz, hnd⟩ := hW
  have hA : DataW.TrodAll enc Try.prog W 0 (fun _ => true) true Try.f3.params.toList args.toList ds p := hA0
  rw [Try.params3] at hA hval hsz
  obtain ⟨v0, vs0, d0, ds0, p0, q0, hargs, rfl, rfl, h0, r0⟩ := trodAll_cons hA
  obtain ⟨v1, vs1, d1, ds1, p1, q1, rfl, rfl, rfl, h1, r1⟩ := trodAll_cons r0
  obtain ⟨rfl, rfl, rfl⟩ := trodAll_nil r1
  obtain rfl : args = #[v0, v1] := by cases args; simp_all
  obtain ⟨rfl, rfl⟩ := trodVars_none hV
  obtain ⟨a0, rfl, rfl, rfl, w0⟩ := open_int Try.underlying22 (hval 0 22 v0 rfl rfl) h0
  obtain ⟨s1, rfl, rfl, rfl, hs1⟩ := Go.ChangeMaps.open_string Try.underlying9 (hval 1 9 v1 rfl rfl) h1
  have hl1 : s1.size ≤ 140737488351232 := text_reach (sized_string hsz (j := 1) (t := 9) rfl rfl)
  clear hA0 hval0
  refine (walk a0 s1 w0 hl1 W).mono fun e W' ⟨he, bel⟩ => ?_
  subst he
  exact ⟨_, rfl, _, _, _, [], _, [], hW', trodAll_mk1 (shut_bool Try.underlying4 _), (trodAll_cons_mk (shut_int Try.underlying22 w0) (trodAll_cons_mk (Go.ChangeMaps.shut_string Try.underlying9 hs1) trodAll_mk0)), rfl, bel.frame _, fun h => by cases h⟩
theorem over : Rows.sumExactRow.holds Try.pinned (OpenSpec.ofChange Rows.sumExactSpec) :=
  OpenClaim.holds_of_wide 3 Try.f3 rfl rfl rfl rfl rfl rfl rfl ⟨rfl, rfl, rfl, rfl, rfl⟩ rfl rfl rfl rfl rfl (by kernel_rfl) Try.func3 (by kernel_rfl)
    (of_decide_eq_true (by kernel_rfl)) (by unfold Func.isWrapper; first | (rw [if_pos (by decide +kernel)]; kernel_rfl) | (rw [if_neg (by decide +kernel)]; exact ⟨rfl, rfl⟩))
    (fun os started H enc _ => lifted os started H enc)
end Go.Proofs.Ytphdmlmacdklaaa.sumExact
namespace Go.Proofs.Ytphdmlmacdklaaa
theorem sumExact_holds : Rows.SumExactSaid := sumExact.over
#print axioms sumExact_holds
end Go.Proofs.Ytphdmlmacdklaaa
