/- For any state and any text: Seal answers what the document says. No conditions. -/
import Derived.Test.YtpimbpfefhkojaaRows
import Derived.Test.YtpimbpfefhkojaaDaB
import Derived.Test.YtpimbpfefhkojaaOpJ
import Derived.BigQuiet
import Derived.OpenShut
import Derived.SizedLaws
import Derived.ChangeMaps5
namespace Go.Proofs.Ytpimbpfefhkojaa.dataSeals
open Go.ChangeShapes Go.WideShapes Go.ChangeAt Go.RowKit Go.Maps
open Go.Proofs.Ytpimbpfefhkojaa.Mb Go.Proofs.Ytpimbpfefhkojaa.Rv
open Wi (ldM ra_of sdl)
set_option linter.unusedVariables false
set_option linter.unusedSimpArgs false

set_option maxHeartbeats 4000000 in
set_option maxRecDepth 100000 in
theorem walk (m0 : Mb) (s1 : ByteArray) (hl1 : s1.size ≤ 140737488351232) (w : World) :
    Calls Try.prog 3 #[.agg (mba m0), .string s1] w fun e w' => e = .returned (.bool true) ∧ Below w.heap.size w w' := by
  have hli := lives17_any
  have h1 := fun W => seal_any m0 s1 W (by omega)
  have h2 := fun W => rSeal_any m0 s1 W (by omega)
  unfold SlA at h1 h2
  generalize slD m0 s1 = d at *
  generalize slE m0 s1.size = e at *
  have heq := fun W => Wi.run_eqSd (w := W) 9997 d d
  rw [decide_eq_true rfl] at heq
  have hM := MA.new w m0
  have hB := below_alloc w (.cells (mba m0) 27)
  obtain ⟨cm, hcm⟩ : ∃ c, mba m0 = c := ⟨_, rfl⟩
  have HC : Hid (mba m0 = cm) := hcm
  rw [hcm] at hM hB
  simp only [hcm] at h1 h2
  rw [hcm]
  clear hcm hl1
  go_enter Try.func3, Try.ntmps3
  go_upto_region 1 with (fail)
  generalize w.alloc (.cells cm 27) = w1 at *
  have HB1 : Hid (Below w.heap.size w w1) := hB
  clear hB
  obtain ⟨B, hBe⟩ : ∃ B, w.heap.size = B := ⟨_, rfl⟩
  rw [hBe] at hM ⊢
  clear hBe
  go_wp2_with fail
  refine (hli _).mono ?_
  rintro r w2 ⟨rfl, hb2⟩
  have hM2 := hM.later hb2
  have HB2 : Hid (Below w.heap.size w w2) := Wi.Below.join HB1.out hb2
  clear hb2 hli hM HB1
  go_wp2_with (refine ldMb hM2 HC.out _ rfl rfl rfl ?_)
  refine (h1 _).mono ?_
  rintro r w3 ⟨rfl, hb3⟩
  have hb4 := Wi.Below.join hb3 (below_alloc w3 (.cells (sdl d).toArray 30))
  have hM4 := hM2.later hb4
  have hD4 := DAt.new w3 d
  have HB4 : Hid (Below w.heap.size w (w3.alloc (.cells (sdl d).toArray 30))) := Wi.Below.join HB2.out hb4
  clear hb3 hb4 hM2 HB2 h1
  unfold sdl at hM4 hD4 HB4 ⊢
  go_upto_region 4 with (fail)
  generalize w3.alloc (.cells #[.int .i64 d.1, .int .i64 d.2.1.1, .int .i64 d.2.1.2, .string d.2.2] 30) = w4 at *
  generalize w3.heap.size = D at *
  go_wp2_with (refine ldMb hM4 HC.out _ rfl rfl rfl ?_)
  refine (h2 _).mono ?_
  rintro r w5 ⟨rfl, hb5⟩
  have hb6 := Wi.Below.join hb5 (below_alloc w5 (.cells (sdl d).toArray 30))
  have hD6 := hD4.later hb6
  have hE6 := DAt.new w5 d
  have HB6 : Hid (Below w.heap.size w (w5.alloc (.cells (sdl d).toArray 30))) := Wi.Below.join HB4.out hb6
  clear hb5 hb6 hM4 hD4 HB4 h2
  unfold sdl at hD6 hE6 HB6 ⊢
  go_upto_region 5 with (fail)
  generalize w5.alloc (.cells #[.int .i64 d.1, .int .i64 d.2.1.1, .int .i64 d.2.1.2, .string d.2.2] 30) = w6 at *
  generalize w5.heap.size = E at *
  have e1 := heq w6
  have HD6 : Hid (w6.rangeAt D 0 (sdl d)) := hD6.all
  have HE6 : Hid (w6.rangeAt E 0 (sdl d)) := hE6.all
  clear hD6 hE6 heq
  go_wp2_with (first | (refine ldM HD6.out Try.underlying30 rfl Wi.szSd _ rfl rfl rfl ?_) | (refine ldM HE6.out Try.underlying30 rfl Wi.szSd _ rfl rfl rfl ?_) | (refine Wi.eqX e1 Try.eqGuardType30 _ _ rfl rfl rfl rfl ?_))
  go_ret
  exact ⟨by simp, HB6.out⟩
theorem own : ownKnob Try.prog.godebug = none := by kernel_rfl
theorem laidOut : laidOutB Try.prog = true := by kernel_rfl
theorem text_reach {s : ByteArray} (h : s.data.toList.length ≤ reachBytes) : s.size ≤ 140737488351232 := by
  have e2 : s.data.toList.length = s.data.size := Array.length_toList
  have e1 : s.size = s.data.size := rfl
  unfold reachBytes at h
  omega
set_option maxRecDepth 100000 in
theorem lifted (os : Os) (started : os.Started) (H : Type) (enc : TypeId × Value → H) :
    ReturnsInHanded {} Try.checked os 3 .any (Rows.dataSealsSpec.pre6 enc Try.prog Try.f3 Rows.dataSealsRow.domain false) (Rows.dataSealsSpec.post enc Try.prog Try.f3 false true false false) := by
  refine returnsInHanded_of_change_sized (C := Try.checked) own started (by kernel_rfl) Try.func3
    (ChangeSpec.witness6 (enc := enc) (C := Try.checked) false ⟨#[], #[.agg #[.int .i64 0, .int .i64 0, .int .i64 0, .int .i64 0, .int .i64 0, .int .i64 0, .int .i64 0, .int .i64 0, .int .i64 0, .int .i64 0, .int .i64 0, .bool false, .bool false, .int .i64 0], .string ⟨#[]⟩], []⟩ 8 (by kernel_rfl) (by kernel_rfl) (by kernel_rfl) (by kernel_rfl)) ?_
  intro W base args ds gs before hval0 hW hcnd hsz0 _
  have hsz : (DataW.weightsEach Try.prog (Try.f3.params.toList ++ Rows.dataSealsSpec.plain.varTypes Try.prog) (ds ++ gs)).all (· ≤ reachBytes) = true := hsz0
  clear hsz0
  have hval : ∀ (j : Nat) t v, Try.f3.params[j]? = some t → args[j]? = some v → Value.okWide Try.prog W .any base t v := hval0
  have hW' := hW
  obtain ⟨p, q, hA0, hV, rfl, hfz, hnd⟩ := hW
  have hA : DataW.TrodAll enc Try.prog W 0 (fun _ => true) true Try.f3.params.toList args.toList ds p := hA0
  rw [Try.params3] at hA hval hsz
  obtain ⟨v0, vs0, d0, ds0, p0, q0, hargs, rfl, rfl, h0, r0⟩ := trodAll_cons hA
  obtain ⟨v1, vs1, d1, ds1, p1, q1, rfl, rfl, rfl, h1, r1⟩ := trodAll_cons r0
  obtain ⟨rfl, rfl, rfl⟩ := trodAll_nil r1
  obtain rfl : args = #[v0, v1] := by cases args; simp_all
  obtain ⟨rfl, rfl⟩ := trodVars_none hV
  have k0 := h0
  have lt0 : ∀ x ∈ p0, x.block < W.heap.size := by obtain ⟨m, hm⟩ := k0; exact DataW.trod_lt m _ _ _ hm
  obtain ⟨m0, rfl⟩ := Mb.open_mb (hval 0 27 v0 rfl rfl) h0
  obtain ⟨s1, rfl, rfl, rfl, hs1⟩ := Go.ChangeMaps.open_string Try.underlying9 (hval 1 9 v1 rfl rfl) h1
  have hl1 : s1.size ≤ 140737488351232 := text_reach (sized_string hsz (j := 1) (t := 9) rfl rfl)
  clear hA0 hval0
  refine (walk m0 s1 hl1 W).mono fun e W' ⟨he, bel⟩ => ?_
  subst he
  exact ⟨_, rfl, _, _, _, [], _, [], hW', trodAll_mk1 (shut_bool Try.underlying4 _), (trodAll_cons_mk (Below.trod laidOut (by kernel_rfl) (of_decide_eq_true (by kernel_rfl)) k0 bel lt0) (trodAll_cons_mk (Go.ChangeMaps.shut_string Try.underlying9 hs1) trodAll_mk0)), rfl, bel.frame _, fun h => by cases h⟩
theorem over : Rows.dataSealsRow.holds Try.pinned (OpenSpec.ofChange Rows.dataSealsSpec) :=
  OpenClaim.holds_of_wide 3 Try.f3 rfl rfl rfl rfl rfl rfl rfl ⟨rfl, rfl, rfl, rfl, rfl⟩ rfl rfl rfl rfl rfl (by kernel_rfl) Try.func3 (by kernel_rfl)
    (of_decide_eq_true (by kernel_rfl)) (by unfold Func.isWrapper; first | (rw [if_pos (by decide +kernel)]; kernel_rfl) | (rw [if_neg (by decide +kernel)]; exact ⟨rfl, rfl⟩))
    (fun os started H enc _ => lifted os started H enc)
end Go.Proofs.Ytpimbpfefhkojaa.dataSeals
namespace Go.Proofs.Ytpimbpfefhkojaa
theorem dataSeals_holds : Rows.DataSealsSaid := dataSeals.over
#print axioms dataSeals_holds
end Go.Proofs.Ytpimbpfefhkojaa
