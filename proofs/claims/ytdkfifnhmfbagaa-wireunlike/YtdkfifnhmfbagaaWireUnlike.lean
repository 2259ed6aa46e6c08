/- For any two messages: where both are encoded, their bytes are the same if and only if they are. No conditions. -/
import Derived.Test.YtdkfifnhmfbagaaRows
import Derived.Test.YtdkfifnhmfbagaaWiH
import Derived.Test.YtdkfifnhmfbagaaOpenWi
import Derived.OpenShut
import Derived.SizedLaws
import Derived.ChangeMaps5
namespace Go.Proofs.Ytdkfifnhmfbagaa.wireUnlike
open Go.ChangeShapes Go.WideShapes Go.ChangeAt Go.RowKit Go.Maps
open Go.Proofs.Ytdkfifnhmfbagaa.Wi
set_option linter.unusedVariables false
set_option linter.unusedSimpArgs false

theorem sameV {w : World} {m m' : Msg} {ct dt : List Value} (h1 : MV w m ct) (h2 : MV w m' dt) : Calls Try.prog 10 #[.agg ct.toArray, .agg dt.toArray] w fun e w' => (∃ b, e = .returned (.bool b) ∧ (b = true ↔ m = m')) ∧ Below w.heap.size w w' := by
  obtain ⟨aL, aJ, aI, cL, cJ, cI, rfl, hr⟩ := h1
  obtain ⟨bL, bJ, bI, dL, dJ, dI, rfl, hs⟩ := h2
  exact same_any m m' aL aJ aI bL bJ bI cL cJ cI dL dJ dI w hr hs
theorem str_ne {X Y : ByteArray} (h : X ≠ Y) : (X.toList == Y.toList) = false := by
  rw [beq_eq_false_iff_ne]
  intro e
  rw [ByteArray.toList_eq, ByteArray.toList_eq] at e
  apply h
  cases X; cases Y
  simp at e
  exact congrArg ByteArray.mk (Array.ext' (by simpa using e))
theorem enE_cases (m : Msg) : (gM m = true ∧ enE m = 0) ∨ (gM m = false ∧ enE m = 13) := by
  unfold enE
  cases gM m <;> simp
set_option maxHeartbeats 2000000 in
set_option maxRecDepth 100000 in
theorem walk (m0 : Msg) (t0 : List Value) (m1 : Msg) (t1 : List Value) (w : World) (mv0 : MV w m0 t0) (mv1 : MV w m1 t1) :
    Calls Try.prog 5 #[.agg t0.toArray, .agg t1.toArray] w fun e w' => e = .returned (.bool true) ∧ Below w.heap.size w w' := by
  have HV0 : Hid (MV w m0 t0) := mv0
  have HV1 : Hid (MV w m1 t1) := mv1
  have hA0 := MB.new w t0
  have hb0 := below_alloc w (.cells t0.toArray 38)
  have hA1 := MB.new (w.alloc (.cells t0.toArray 38)) t1
  have hb1 := below_alloc (w.alloc (.cells t0.toArray 38)) (.cells t1.toArray 38)
  have hA0 := hA0.later hb1
  have HB1 : Hid (Below w.heap.size w ((w.alloc (.cells t0.toArray 38)).alloc (.cells t1.toArray 38))) := Below.join hb0 hb1
  rw [World.size_alloc] at hA1
  have HS0 : Hid _ := szMv mv0
  have HS1 : Hid _ := szMv mv1
  clear hb0 hb1 mv0 mv1
  go_enter Try.func5, Try.ntmps5
  go_upto_region 1 with (fail)
  generalize (w.alloc (.cells t0.toArray 38)).alloc (.cells t1.toArray 38) = w1 at *
  obtain ⟨C, hCe⟩ : ∃ C, w.heap.size + 1 = C := ⟨_, rfl⟩
  rw [hCe] at hA1 ⊢
  obtain ⟨A, hAe⟩ : ∃ C, w.heap.size = C := ⟨_, rfl⟩
  rw [hAe] at hA0 ⊢
  clear hCe hAe
  have HA0 : Hid (MB w1 A t0) := hA0
  have HA1 : Hid (MB w1 C t1) := hA1
  clear hA0 hA1
  go_wp2_with fail
  refine (lives_any _).mono ?_
  rintro e w2 ⟨rfl, hb2⟩
  have HB2 : Hid (Below w.heap.size w w2) := Below.join HB1.out hb2
  have hA2 := HA0.out.later hb2
  have hC2 := HA1.out.later hb2
  have HA2 : Hid (MB w2 A t0) := hA2
  have HC2 : Hid (MB w2 C t1) := hC2
  have HR2 : Hid (w2.rangeAt A 0 t0) := hA2.all
  clear hb2 hA2 hC2 HB1 HA0 HA1
  have h3 := (HV0.out.later HB2.out).enc
  go_wp2_with (refine ldM HR2.out Try.underlying38 rfl HS0.out _ rfl rfl rfl ?_)
  refine h3.mono ?_
  rintro e w3 ⟨rfl, hb3⟩
  have HB3 : Hid (Below w.heap.size w w3) := Below.join HB2.out hb3
  have hA3 := HA2.out.later hb3
  have hC3 := HC2.out.later hb3
  have HA3 : Hid (MB w3 A t0) := hA3
  have HC3 : Hid (MB w3 C t1) := hC3
  have HR3 : Hid (w3.rangeAt C 0 t1) := hC3.all
  clear hb3 hA3 hC3 HB2 HA2 HC2 h3 HR2
  have h4 := (HV1.out.later HB3.out).enc
  go_wp2_with (refine ldM HR3.out Try.underlying38 rfl HS1.out _ rfl rfl rfl ?_)
  refine h4.mono ?_
  rintro e w4 ⟨rfl, hb4⟩
  have HB4 : Hid (Below w.heap.size w w4) := Below.join HB3.out hb4
  have hA4 := HA3.out.later hb4
  have hC4 := HC3.out.later hb4
  have HR4 : Hid (w4.rangeAt A 0 t0) := hA4.all
  have HR5 : Hid (w4.rangeAt C 0 t1) := hC4.all
  clear hb4 hA4 hC4 HB3 HA3 HC3 h4 HR3
  have h5 := sameV (HV0.out.later HB4.out) (HV1.out.later HB4.out)
  have HI : Hid (∀ (_ : gM m0 = true) (_ : gM m1 = true), (enS m0 = enS m1 ↔ m0 = m1)) := fun ga gb => ⟨en_inj ga gb, fun h => by rw [h]⟩
  obtain ⟨s0, hs0⟩ : ∃ s, enS m0 = s := ⟨_, rfl⟩
  obtain ⟨s1, hs1⟩ : ∃ s, enS m1 = s := ⟨_, rfl⟩
  rw [hs0, hs1] at HI
  rw [hs0, hs1]
  clear hs0 hs1
  rcases enE_cases m0 with ⟨ga, ea⟩ | ⟨ga, ea⟩
  · rcases enE_cases m1 with ⟨gb, eb⟩ | ⟨gb, eb⟩
    · have HI2 : Hid (s0 = s1 ↔ m0 = m1) := HI.out ga gb
      rw [ea, eb]
      clear HI ga ea gb eb
      go_wp2_with (first | (refine ldM HR4.out Try.underlying38 rfl HS0.out _ rfl rfl rfl ?_) | (refine ldM HR5.out Try.underlying38 rfl HS1.out _ rfl rfl rfl ?_))
      refine h5.mono ?_
      rintro e w5 ⟨⟨b, rfl, hb⟩, hb5⟩
      have HB5 : Hid (Below w.heap.size w w5) := Below.join HB4.out hb5
      have HE : Hid (((s0.toList == s1.toList) == b) = true) := by
        have h : (s0 = s1) ↔ (b = true) := HI2.out.trans hb.symm
        unfold Hid
        cases b
        · have : ¬ s0 = s1 := by rw [h]; simp
          rw [str_ne this]; rfl
        · have : s0 = s1 := h.2 rfl
          rw [this]; simp
      clear h5 hb hb5 HI2
      go_wp2_with fail
      go_ret
      have h := HE.out
      refine ⟨?_, HB5.out⟩
      first | exact Bt.ret_bool h | exact Bt.ret_bool (by simpa using h) | skip
    · rw [ea, eb]
      clear HI ga ea gb eb h5
      go_wp2_with fail
      go_ret
      exact ⟨rfl, HB4.out⟩
  · rw [ea]
    clear HI ga ea h5
    obtain ⟨e1, he1⟩ : ∃ e, enE m1 = e := ⟨_, rfl⟩
    rw [he1]
    clear he1
    go_wp2_with fail
    go_ret
    exact ⟨rfl, HB4.out⟩
theorem own : ownKnob Try.prog.godebug = none := by kernel_rfl
theorem laidOut : laidOutB Try.prog = true := by kernel_rfl
set_option maxRecDepth 100000 in
theorem lifted (os : Os) (started : os.Started) (H : Type) (enc : TypeId × Value → H) :
    ReturnsInHanded {} Try.checked os 5 .any (Rows.wireUnlikeSpec.pre6 enc Try.prog Try.f5 Rows.wireUnlikeRow.domain false) (Rows.wireUnlikeSpec.post enc Try.prog Try.f5 false true false false) := by
  refine returnsInHanded_of_change_sized (C := Try.checked) own started (by kernel_rfl) Try.func5
    (ChangeSpec.witness6 (enc := enc) (C := Try.checked) false ⟨#[], #[.agg #[.int .i64 0, .int .i64 0, .slice none 0 0, .slice none 0 0, .slice none 0 0, .int .i64 0, .int .i64 0, .int .i64 0, .int .i64 0, .int .i64 0, .int .i64 0, .int .i64 0, .int .i64 0, .int .i64 0, .int .i64 0, .int .i64 0, .int .i64 0, .int .i64 0, .int .i64 0, .int .i64 0, .int .i64 0, .int .i64 0, .int .i64 0, .int .i64 0, .int .i64 0, .string ⟨#[]⟩], .agg #[.int .i64 0, .int .i64 0, .slice none 0 0, .slice none 0 0, .slice none 0 0, .int .i64 0, .int .i64 0, .int .i64 0, .int .i64 0, .int .i64 0, .int .i64 0, .int .i64 0, .int .i64 0, .int .i64 0, .int .i64 0, .int .i64 0, .int .i64 0, .int .i64 0, .int .i64 0, .int .i64 0, .int .i64 0, .int .i64 0, .int .i64 0, .int .i64 0, .int .i64 0, .string ⟨#[]⟩]], []⟩ 8 (by kernel_rfl) (by kernel_rfl) (by kernel_rfl) (by kernel_rfl)) ?_
  intro W base args ds gs before hval0 hW hcnd hsz0 _
  have hsz : (DataW.weightsEach Try.prog (Try.f5.params.toList ++ Rows.wireUnlikeSpec.plain.varTypes Try.prog) (ds ++ gs)).all (· ≤ reachBytes) = true := hsz0
  clear hsz0
  have hval : ∀ (j : Nat) t v, Try.f5.params[j]? = some t → args[j]? = some v → Value.okWide Try.prog W .any base t v := hval0
  have hW' := hW
  obtain ⟨p, q, hA0, hV, rfl, hfz, hnd⟩ := hW
  have hA : DataW.TrodAll enc Try.prog W 0 (fun _ => true) true Try.f5.params.toList args.toList ds p := hA0
  rw [Try.params5] at hA hval hsz
  obtain ⟨v0, vs0, d0, ds0, p0, q0, hargs, rfl, rfl, h0, r0⟩ := trodAll_cons hA
  obtain ⟨v1, vs1, d1, ds1, p1, q1, rfl, rfl, rfl, h1, r1⟩ := trodAll_cons r0
  obtain ⟨rfl, rfl, rfl⟩ := trodAll_nil r1
  obtain rfl : args = #[v0, v1] := by cases args; simp_all
  obtain ⟨rfl, rfl⟩ := trodVars_none hV
  have k0 := h0
  have lt0 : ∀ x ∈ p0, x.block < W.heap.size := by obtain ⟨m, hm⟩ := k0; exact DataW.trod_lt m _ _ _ hm
  obtain ⟨m0, t0, rfl, mv0⟩ := Wi.open_mv (fun parts e => by subst e; exact Wi.sized_agg hsz (j := 0) (t := 38) rfl rfl Try.underlying38) (hval 0 38 v0 rfl rfl) h0
  have k1 := h1
  have lt1 : ∀ x ∈ p1, x.block < W.heap.size := by obtain ⟨m, hm⟩ := k1; exact DataW.trod_lt m _ _ _ hm
  obtain ⟨m1, t1, rfl, mv1⟩ := Wi.open_mv (fun parts e => by subst e; exact Wi.sized_agg hsz (j := 1) (t := 38) rfl rfl Try.underlying38) (hval 1 38 v1 rfl rfl) h1
  clear hA0 hval0
  refine (walk m0 t0 m1 t1 W mv0 mv1).mono fun e W' ⟨he, bel⟩ => ?_
  subst he
  exact ⟨_, rfl, _, _, _, [], _, [], hW', trodAll_mk1 (shut_bool Try.underlying4 _), (trodAll_cons_mk (Below.trod laidOut (by kernel_rfl) (of_decide_eq_true (by kernel_rfl)) k0 bel lt0) (trodAll_cons_mk (Below.trod laidOut (by kernel_rfl) (of_decide_eq_true (by kernel_rfl)) k1 bel lt1) trodAll_mk0)), rfl, bel.frame _, fun h => by cases h⟩
theorem over : Rows.wireUnlikeRow.holds Try.pinned (OpenSpec.ofChange Rows.wireUnlikeSpec) :=
  OpenClaim.holds_of_wide 5 Try.f5 rfl rfl rfl rfl rfl rfl rfl ⟨rfl, rfl, rfl, rfl, rfl⟩ rfl rfl rfl rfl rfl (by kernel_rfl) Try.func5 (by kernel_rfl)
    (of_decide_eq_true (by kernel_rfl)) (by unfold Func.isWrapper; first | (rw [if_pos (by decide +kernel)]; kernel_rfl) | (rw [if_neg (by decide +kernel)]; exact ⟨rfl, rfl⟩))
    (fun os started H enc _ => lifted os started H enc)
end Go.Proofs.Ytdkfifnhmfbagaa.wireUnlike
namespace Go.Proofs.Ytdkfifnhmfbagaa
theorem wireUnlike_holds : Rows.WireUnlikeSaid := wireUnlike.over
#print axioms wireUnlike_holds
end Go.Proofs.Ytdkfifnhmfbagaa
