/- For every number and all texts: Extend of a text's sum by another is the sum of both; nothing behind a sum leaves it; Extend by two texts, one behind the other, is Extend by both. No conditions. -/
import Derived.Test.YtphdmlmacdklaaaRows
import Derived.Test.YtphdmlmacdklaaaSumC
import Derived.OpenShut
import Derived.SizedLaws
import Derived.ChangeMaps5
namespace Go.Proofs.Ytphdmlmacdklaaa.sumJoins
open Go.ChangeShapes Go.WideShapes Go.ChangeAt Go.RowKit
set_option linter.unusedVariables false

theorem app_list (a b : ByteArray) : (a ++ b).data.toList = a.data.toList ++ b.data.toList := by simp [ByteArray.data_append]
set_option maxHeartbeats 2000000 in
theorem walk (a0 : Int) (a b : ByteArray) (w0 : (Lit.int .u32 a0).wf = true) (hl1 : a.size ≤ 140737488351232) (hl2 : b.size ≤ 140737488351232) (w : World) :
    Calls Try.prog 4 #[.int .u32 a0, .string a, .string b] w fun e w' => e = .returned (.bool true) ∧ Below w.heap.size w w' := by
  have hx := bounds_u32 w0
  clear w0
  obtain ⟨n, rfl⟩ : ∃ n : Nat, a0 = (n : Int) := ⟨a0.toNat, by omega⟩
  have hn : n < 4294967296 := by omega
  have ha : a.size ≤ 281474976710656 := by omega
  have hb : b.size ≤ 281474976710656 := by omega
  have hab : (a ++ b).size ≤ 281474976710656 := by rw [ByteArray.size_append]; omega
  have hm : ¬ 9223372036854775807 < a.size + b.size := by omega
  clear hx hl1 hl2
  go_enter Try.func4, Try.ntmps4
  go_wp2_with fail
  refine (lives_any _).mono ?_
  rintro e w1 ⟨rfl, hb1⟩
  have HB1 : Hid (Below w.heap.size w w1) := hb1
  clear hb1
  have hA32 := ext_lt 0 a.data.toList
  obtain ⟨A, hA⟩ : ∃ A, ext 0 a.data.toList = A := ⟨_, rfl⟩
  have hC32 := ext_lt n a.data.toList
  obtain ⟨C, hC⟩ : ∃ C, ext n a.data.toList = C := ⟨_, rfl⟩
  have hE : ext n (⟨#[]⟩ : ByteArray).data.toList = n := ext_nil hn
  obtain ⟨S, hS⟩ : ∃ S, a ++ b = S := ⟨_, rfl⟩
  obtain ⟨B, hB⟩ : ∃ B, ext A b.data.toList = B := ⟨_, rfl⟩
  obtain ⟨D, hD⟩ : ∃ D, ext C b.data.toList = D := ⟨_, rfl⟩
  have hB2 : ext 0 S.data.toList = B := by rw [← hS, app_list, ext_append, hA, hB]
  have hD2 : ext n S.data.toList = D := by rw [← hS, app_list, ext_append, hC, hD]
  rw [hA] at hA32
  rw [hC] at hC32
  rw [hS] at hab
  have HE : Hid (ext 0 a.data.toList = A ∧ ext n a.data.toList = C ∧ ext A b.data.toList = B ∧ ext C b.data.toList = D ∧ ext 0 S.data.toList = B ∧ ext n S.data.toList = D ∧ ext n (⟨#[]⟩ : ByteArray).data.toList = n) := ⟨hA, hC, hB, hD, hB2, hD2, hE⟩
  clear hA hB hC hD hB2 hD2 hE
  go_wp2_with fail
  refine (sum_any a _ ha).mono ?_
  rintro e w2 ⟨rfl, rfl⟩
  rw [HE.out.1]
  go_wp2_with fail
  refine (ext_any A b _ hA32 hb).mono ?_
  rintro e w2 ⟨rfl, rfl⟩
  rw [HE.out.2.2.1]
  go_wp2_with fail
  refine (sum_any S _ hab).mono ?_
  rintro e w2 ⟨rfl, rfl⟩
  rw [HE.out.2.2.2.2.1]
  go_wp2_with fail
  refine (ext_any n _ _ hn (by decide)).mono ?_
  rintro e w2 ⟨rfl, rfl⟩
  rw [HE.out.2.2.2.2.2.2]
  go_wp2_with fail
  refine (ext_any n a _ hn ha).mono ?_
  rintro e w2 ⟨rfl, rfl⟩
  rw [HE.out.2.1]
  go_wp2_with fail
  refine (ext_any C b _ hC32 hb).mono ?_
  rintro e w2 ⟨rfl, rfl⟩
  rw [HE.out.2.2.2.1]
  go_wp2_with fail
  refine (ext_any n S _ hn hab).mono ?_
  rintro e w2 ⟨rfl, rfl⟩
  rw [HE.out.2.2.2.2.2.1]
  go_wp2_with fail
  go_ret
  exact ⟨ret_bool (by simp), HB1.out⟩
theorem own : ownKnob Try.prog.godebug = none := by kernel_rfl
theorem laidOut : laidOutB Try.prog = true := by kernel_rfl
theorem text_reach {s : ByteArray} (h : s.data.toList.length ≤ reachBytes) : s.size ≤ 140737488351232 := by
  have e2 : s.data.toList.length = s.data.size := Array.length_toList
  have e1 : s.size = s.data.size := rfl
  unfold reachBytes at h
  omega
set_option maxRecDepth 100000 in
theorem lifted (os : Os) (started : os.Started) (H : Type) (enc : TypeId × Value → H) :
    ReturnsInHanded {} Try.checked os 4 .any (Rows.sumJoinsSpec.pre6 enc Try.prog Try.f4 Rows.sumJoinsRow.domain false) (Rows.sumJoinsSpec.post enc Try.prog Try.f4 false true false false) := by
  refine returnsInHanded_of_change_sized (C := Try.checked) own started (by kernel_rfl) Try.func4
    (ChangeSpec.witness6 (enc := enc) (C := Try.checked) false ⟨#[], #[.int .u32 0, .string ⟨#[]⟩, .string ⟨#[]⟩], []⟩ 8 (by kernel_rfl) (by kernel_rfl) (by kernel_rfl) (by kernel_rfl)) ?_
  intro W base args ds gs before hval0 hW hcnd hsz0 _
  have hsz : (DataW.weightsEach Try.prog (Try.f4.params.toList ++ Rows.sumJoinsSpec.plain.varTypes Try.prog) (ds ++ gs)).all (· ≤ reachBytes) = true := hsz0
  clear hsz0
  have hval : ∀ (j : Nat) t v, Try.f4.params[j]? = some t → args[j]? = some v → Value.okWide Try.prog W .any base t v := hval0
  have hW' := hW
  obtain ⟨p, q, hA0, hV, rfl, hfz, hnd⟩ := hW
  have hA : DataW.TrodAll enc Try.prog W 0 (fun _ => true) true Try.f4.params.toList args.toList ds p := hA0
  rw [Try.params4] at hA hval hsz
  obtain ⟨v0, vs0, d0, ds0, p0, q0, hargs, rfl, rfl, h0, r0⟩ := trodAll_cons hA
  obtain ⟨v1, vs1, d1, ds1, p1, q1, rfl, rfl, rfl, h1, r1⟩ := trodAll_cons r0
  obtain ⟨v2, vs2, d2, ds2, p2, q2, rfl, rfl, rfl, h2, r2⟩ := trodAll_cons r1
  obtain ⟨rfl, rfl, rfl⟩ := trodAll_nil r2
  obtain rfl : args = #[v0, v1, v2] := by cases args; simp_all
  obtain ⟨rfl, rfl⟩ := trodVars_none hV
  obtain ⟨a0, rfl, rfl, rfl, w0⟩ := open_int Try.underlying22 (hval 0 22 v0 rfl rfl) h0
  obtain ⟨s1, rfl, rfl, rfl, hs1⟩ := Go.ChangeMaps.open_string Try.underlying9 (hval 1 9 v1 rfl rfl) h1
  have hl1 : s1.size ≤ 140737488351232 := text_reach (sized_string hsz (j := 1) (t := 9) rfl rfl)
  obtain ⟨s2, rfl, rfl, rfl, hs2⟩ := Go.ChangeMaps.open_string Try.underlying9 (hval 2 9 v2 rfl rfl) h2
  have hl2 : s2.size ≤ 140737488351232 := text_reach (sized_string hsz (j := 2) (t := 9) rfl rfl)
  clear hA0 hval0
  refine (walk a0 s1 s2 w0 hl1 hl2 W).mono fun e W' ⟨he, bel⟩ => ?_
  subst he
  exact ⟨_, rfl, _, _, _, [], _, [], hW', trodAll_mk1 (shut_bool Try.underlying4 _), (trodAll_cons_mk (shut_int Try.underlying22 w0) (trodAll_cons_mk (Go.ChangeMaps.shut_string Try.underlying9 hs1) (trodAll_cons_mk (Go.ChangeMaps.shut_string Try.underlying9 hs2) trodAll_mk0))), rfl, bel.frame _, fun h => by cases h⟩
theorem over : Rows.sumJoinsRow.holds Try.pinned (OpenSpec.ofChange Rows.sumJoinsSpec) :=
  OpenClaim.holds_of_wide 4 Try.f4 rfl rfl rfl rfl rfl rfl rfl ⟨rfl, rfl, rfl, rfl, rfl⟩ rfl rfl rfl rfl rfl (by kernel_rfl) Try.func4 (by kernel_rfl)
    (of_decide_eq_true (by kernel_rfl)) (by unfold Func.isWrapper; first | (rw [if_pos (by decide +kernel)]; kernel_rfl) | (rw [if_neg (by decide +kernel)]; exact ⟨rfl, rfl⟩))
    (fun os started H enc _ => lifted os started H enc)
end Go.Proofs.Ytphdmlmacdklaaa.sumJoins
namespace Go.Proofs.Ytphdmlmacdklaaa
theorem sumJoins_holds : Rows.SumJoinsSaid := sumJoins.over
#print axioms sumJoins_holds
end Go.Proofs.Ytphdmlmacdklaaa
