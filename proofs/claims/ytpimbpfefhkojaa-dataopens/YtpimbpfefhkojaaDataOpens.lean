/- For any state and any sealed text: Open answers what the document says. No conditions. -/
import Derived.Test.YtpimbpfefhkojaaRows
import Derived.Test.YtpimbpfefhkojaaDaB
import Derived.Test.YtpimbpfefhkojaaOpenDa
import Derived.BigQuiet
import Derived.OpenShut
import Derived.SizedLaws
import Derived.ChangeMaps5
namespace Go.Proofs.Ytpimbpfefhkojaa.dataOpens
open Go.ChangeShapes Go.WideShapes Go.ChangeAt Go.RowKit Go.Maps
open Go.Proofs.Ytpimbpfefhkojaa.Mb Go.Proofs.Ytpimbpfefhkojaa.Rv
open Wi (ldM ra_of sdl)
set_option linter.unusedVariables false
set_option linter.unusedSimpArgs false

set_option maxHeartbeats 4000000 in
set_option maxRecDepth 100000 in
theorem walk (m0 : Mb) (y1 : Sd) (w : World) (ny1 : y1.2.2.size < 4611686018427387904) :
    Calls Try.prog 4 #[.agg (mba m0), .agg (sdl y1).toArray] w fun e w' => e = .returned (.bool true) ∧ Below w.heap.size w w' := by
  have hli := lives17_any
  have h1 := fun W => open_any m0 y1 W ny1
  have h2 := fun W => rOpen_any m0 y1 W ny1
  unfold Rv.OpA at h1 h2
  generalize opS m0 y1 = s at *
  generalize opE m0 y1 = e at *
  have hM := (MA.new w m0).later (below_alloc _ (.cells (sdl y1).toArray 30))
  have hD := DAt.new (w.alloc (.cells (mba m0) 27)) y1
  rw [World.size_alloc] at hD
  have hB : Below w.heap.size w ((w.alloc (.cells (mba m0) 27)).alloc (.cells (sdl y1).toArray 30)) := Wi.Below.plus (below_alloc _ _) _
  obtain ⟨cm, hcm⟩ : ∃ c, mba m0 = c := ⟨_, rfl⟩
  have HC : Hid (mba m0 = cm) := hcm
  rw [hcm] at hM hB hD
  simp only [hcm] at h1 h2
  rw [hcm]
  clear hcm ny1
  go_enter Try.func4, Try.ntmps4
  go_upto_region 1 with (fail)
  generalize (w.alloc (.cells cm 27)).alloc (.cells (sdl y1).toArray 30) = w1 at *
  have HB1 : Hid (Below w.heap.size w w1) := hB
  clear hB
  obtain ⟨K, hKe⟩ : ∃ K, w.heap.size + 1 = K := ⟨_, rfl⟩
  obtain ⟨B, hBe⟩ : ∃ B, w.heap.size = B := ⟨_, rfl⟩
  rw [hKe] at hD ⊢
  rw [hBe] at hM ⊢
  clear hBe hKe
  go_wp2_with fail
  refine (hli _).mono ?_
  rintro r w2 ⟨rfl, hb2⟩
  have hM2 := hM.later hb2
  have hD2 := hD.later hb2
  have HB2 : Hid (Below w.heap.size w w2) := Wi.Below.join HB1.out hb2
  have HD2 : Hid (w2.rangeAt K 0 (sdl y1)) := hD2.all
  clear hb2 hli hM hD HB1
  go_wp2_with (first | (refine ldMb hM2 HC.out _ rfl rfl rfl ?_) | (refine ldM HD2.out Try.underlying30 rfl Wi.szSd _ rfl rfl rfl ?_))
  refine (h1 _).mono ?_
  rintro r w4 ⟨rfl, hb4⟩
  have hM4 := hM2.later hb4
  have HD4 : Hid (w4.rangeAt K 0 (sdl y1)) := (hD2.later hb4).all
  have HB4 : Hid (Below w.heap.size w w4) := Wi.Below.join HB2.out hb4
  clear hb4 hM2 HB2 h1 HD2 hD2
  go_wp2_with (first | (refine ldMb hM4 HC.out _ rfl rfl rfl ?_) | (refine ldM HD4.out Try.underlying30 rfl Wi.szSd _ rfl rfl rfl ?_))
  refine (h2 _).mono ?_
  rintro r w5 ⟨rfl, hb5⟩
  have HB6 : Hid (Below w.heap.size w w5) := Wi.Below.join HB4.out hb5
  clear hb5 hM4 HB4 h2 HD4
  go_wp2_with fail
  go_ret
  exact ⟨by simp, HB6.out⟩
theorem own : ownKnob Try.prog.godebug = none := by kernel_rfl
theorem laidOut : laidOutB Try.prog = true := by kernel_rfl
set_option maxRecDepth 100000 in
theorem lifted (os : Os) (started : os.Started) (H : Type) (enc : TypeId × Value → H) :
    ReturnsInHanded {} Try.checked os 4 .any (Rows.dataOpensSpec.pre6 enc Try.prog Try.f4 Rows.dataOpensRow.domain false) (Rows.dataOpensSpec.post enc Try.prog Try.f4 false true false false) := by
  refine returnsInHanded_of_change_sized (C := Try.checked) own started (by kernel_rfl) Try.func4
    (ChangeSpec.witness6 (enc := enc) (C := Try.checked) false ⟨#[], #[.agg #[.int .i64 0, .int .i64 0, .int .i64 0, .int .i64 0, .int .i64 0, .int .i64 0, .int .i64 0, .int .i64 0, .int .i64 0, .int .i64 0, .int .i64 0, .bool false, .bool false, .int .i64 0], .agg #[.int .i64 0, .int .i64 0, .int .i64 0, .string ⟨#[]⟩]], []⟩ 8 (by kernel_rfl) (by kernel_rfl) (by kernel_rfl) (by kernel_rfl)) ?_
  intro W base args ds gs before hval0 hW hcnd hsz0 _
  have hsz : (DataW.weightsEach Try.prog (Try.f4.params.toList ++ Rows.dataOpensSpec.plain.varTypes Try.prog) (ds ++ gs)).all (· ≤ reachBytes) = true := hsz0
  clear hsz0
  have hval : ∀ (j : Nat) t v, Try.f4.params[j]? = some t → args[j]? = some v → Value.okWide Try.prog W .any base t v := hval0
  have hW' := hW
  obtain ⟨p, q, hA0, hV, rfl, hfz, hnd⟩ := hW
  have hA : DataW.TrodAll enc Try.prog W 0 (fun _ => true) true Try.f4.params.toList args.toList ds p := hA0
  rw [Try.params4] at hA hval hsz
  obtain ⟨v0, vs0, d0, ds0, p0, q0, hargs, rfl, rfl, h0, r0⟩ := trodAll_cons hA
  obtain ⟨v1, vs1, d1, ds1, p1, q1, rfl, rfl, rfl, h1, r1⟩ := trodAll_cons r0
  obtain ⟨rfl, rfl, rfl⟩ := trodAll_nil r1
  obtain rfl : args = #[v0, v1] := by cases args; simp_all
  obtain ⟨rfl, rfl⟩ := trodVars_none hV
  have k0 := h0
  have lt0 : ∀ x ∈ p0, x.block < W.heap.size := by obtain ⟨m, hm⟩ := k0; exact DataW.trod_lt m _ _ _ hm
  obtain ⟨m0, rfl⟩ := Mb.open_mb (hval 0 27 v0 rfl rfl) h0
  have k1 := h1
  have lt1 : ∀ x ∈ p1, x.block < W.heap.size := by obtain ⟨m, hm⟩ := k1; exact DataW.trod_lt m _ _ _ hm
  obtain ⟨y1, rfl, ny1⟩ := Rv.open_sd (fun parts e => by subst e; exact Wi.sized_agg hsz (j := 1) (t := 30) rfl rfl Try.underlying30) (hval 1 30 v1 rfl rfl) h1
  clear hA0 hval0
  refine (walk m0 y1 W ny1).mono fun e W' ⟨he, bel⟩ => ?_
  subst he
  exact ⟨_, rfl, _, _, _, [], _, [], hW', trodAll_mk1 (shut_bool Try.underlying4 _), (trodAll_cons_mk (Below.trod laidOut (by kernel_rfl) (of_decide_eq_true (by kernel_rfl)) k0 bel lt0) (trodAll_cons_mk (Below.trod laidOut (by kernel_rfl) (of_decide_eq_true (by kernel_rfl)) k1 bel lt1) trodAll_mk0)), rfl, bel.frame _, fun h => by cases h⟩
theorem over : Rows.dataOpensRow.holds Try.pinned (OpenSpec.ofChange Rows.dataOpensSpec) :=
  OpenClaim.holds_of_wide 4 Try.f4 rfl rfl rfl rfl rfl rfl rfl ⟨rfl, rfl, rfl, rfl, rfl⟩ rfl rfl rfl rfl rfl (by kernel_rfl) Try.func4 (by kernel_rfl)
    (of_decide_eq_true (by kernel_rfl)) (by unfold Func.isWrapper; first | (rw [if_pos (by decide +kernel)]; kernel_rfl) | (rw [if_neg (by decide +kernel)]; exact ⟨rfl, rfl⟩))
    (fun os started H enc _ => lifted os started H enc)
end Go.Proofs.Ytpimbpfefhkojaa.dataOpens
namespace Go.Proofs.Ytpimbpfefhkojaa
theorem dataOpens_holds : Rows.DataOpensSaid := dataOpens.over
#print axioms dataOpens_holds
end Go.Proofs.Ytpimbpfefhkojaa
