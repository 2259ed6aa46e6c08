/- For every message and every text: a right message is encoded and comes back; what is taken is right and would be written so; what is not taken is ErrWire and the zero message. No conditions. -/
import Derived.Test.YtdkfifnhmfbagaaRows
import Derived.Test.YtdkfifnhmfbagaaWiKa
import Derived.Test.YtdkfifnhmfbagaaOpenWi
import Derived.OpenShut
import Derived.SizedLaws
import Derived.ChangeMaps5
namespace Go.Proofs.Ytdkfifnhmfbagaa.wireBack
open Go.ChangeShapes Go.WideShapes Go.ChangeAt Go.RowKit Go.Maps
open Go.Proofs.Ytdkfifnhmfbagaa.Wi
open Bt (tx pk tb bys)
set_option linter.unusedVariables false
set_option linter.unusedSimpArgs false

set_option maxHeartbeats 2000000 in
set_option maxRecDepth 100000 in
theorem walk (m0 : Msg) (t0 : List Value) (s1 : ByteArray) (w : World) (mv0 : MV w m0 t0) (hl1 : s1.size ≤ 140737488351232) :
    Calls Try.prog 3 #[.agg t0.toArray, .string s1] w fun e w' => e = .returned (.bool true) ∧ Below w.heap.size w w' := by
  have HL : Hid (s1.size ≤ 140737488351232) := hl1
  have HV0 : Hid (MV w m0 t0) := mv0
  have hA0 := MB.new w t0
  have hb0 := below_alloc w (.cells t0.toArray 38)
  have HB1 : Hid (Below w.heap.size w (w.alloc (.cells t0.toArray 38))) := hb0
  have HS0 : Hid _ := szMv mv0
  clear hb0 mv0 hl1
  go_enter Try.func3, Try.ntmps3
  go_upto_region 1 with (fail)
  generalize w.alloc (.cells t0.toArray 38) = w1 at *
  obtain ⟨A, hAe⟩ : ∃ C, w.heap.size = C := ⟨_, rfl⟩
  rw [hAe] at hA0 ⊢
  clear hAe
  have HA0 : Hid (MB w1 A t0) := hA0
  clear hA0
  go_wp2_with fail
  refine (lives_any _).mono ?_
  rintro e w2 ⟨rfl, hb2⟩
  have HB2 : Hid (Below w.heap.size w w2) := Below.join HB1.out hb2
  have HA2 : Hid (MB w2 A t0) := HA0.out.later hb2
  have HR2 : Hid (w2.rangeAt A 0 t0) := HA2.out.all
  clear hb2 HB1 HA0
  have h3 := (HV0.out.later HB2.out).enc
  go_wp2_with (refine ldM HR2.out Try.underlying38 rfl HS0.out _ rfl rfl rfl ?_)
  refine h3.mono ?_
  rintro e w3 ⟨rfl, hb3⟩
  have HB3 : Hid (Below w.heap.size w w3) := Below.join HB2.out hb3
  have HA3 : Hid (MB w3 A t0) := HA2.out.later hb3
  have HR3 : Hid (w3.rangeAt A 0 t0) := HA3.out.all
  clear hb3 HB2 HA2 h3 HR2
  have h4 := goodV (HV0.out.later HB3.out)
  have HI : Hid (∀ (_ : gM m0 = true), dcE (tb (bys (enS m0))) = 0 ∧ dcM (tb (bys (enS m0))) = m0) := dc_back
  have HSm : Hid ((enS m0).size ≤ 131073) := en_small m0
  obtain ⟨s0, hs0⟩ : ∃ s, enS m0 = s := ⟨_, rfl⟩
  rw [hs0] at HI HSm
  rw [hs0]
  clear hs0
  rcases enE_cases m0 with ⟨ga, ea⟩ | ⟨ga, ea⟩
  · rw [ga] at h4
    have HI2 : Hid (dcE (tb (bys s0)) = 0 ∧ dcM (tb (bys s0)) = m0) := HI.out ga
    rw [ea]
    clear HI ga ea
    go_wp2_with (refine ldM HR3.out Try.underlying38 rfl HS0.out _ rfl rfl rfl ?_)
    refine h4.mono ?_
    rintro e w4 ⟨rfl, hb4⟩
    have HB4 : Hid (Below w.heap.size w w4) := Below.join HB3.out hb4
    have HA4 : Hid (MB w4 A t0) := HA3.out.later hb4
    clear hb4 HB3 HA3 HR3 h4
    have h5 := dec_mv s0 w4 (by have := HSm.out; omega)
    rw [HI2.out.1, HI2.out.2] at h5
    go_wp2_with fail
    refine h5.mono ?_
    rintro e w5 ⟨dt, rfl, hv, hb5⟩
    have HB5 : Hid (Below w.heap.size w w5) := Below.join HB4.out hb5
    have HV5 : Hid (MV w5 m0 dt) := hv
    have HA5 : Hid (MB w5 A t0) := HA4.out.later hb5
    clear h5 hb5 hv HB4 HA4
    have HZ : Hid ((w5.alloc (.cells #[.int .i64 0, .int .i64 0, .slice none 0 0, .slice none 0 0, .slice none 0 0, .int .i64 0, .int .i64 0, .int .i64 0, .int .i64 0, .int .i64 0, .int .i64 0, .int .i64 0, .int .i64 0, .int .i64 0, .int .i64 0, .int .i64 0, .int .i64 0, .int .i64 0, .int .i64 0, .int .i64 0, .int .i64 0, .int .i64 0, .int .i64 0, .int .i64 0, .int .i64 0, .string ⟨#[]⟩] 38)).heap[w5.heap.size]? = some (.cells #[.int .i64 0, .int .i64 0, .slice none 0 0, .slice none 0 0, .slice none 0 0, .int .i64 0, .int .i64 0, .int .i64 0, .int .i64 0, .int .i64 0, .int .i64 0, .int .i64 0, .int .i64 0, .int .i64 0, .int .i64 0, .int .i64 0, .int .i64 0, .int .i64 0, .int .i64 0, .int .i64 0, .int .i64 0, .int .i64 0, .int .i64 0, .int .i64 0, .int .i64 0, .string ⟨#[]⟩] 38 (0, 0))) := heap_alloc_last w5 _
    go_upto_region 8 with (refine stW szMg HZ.out rfl dt HV5.out.len HV5.out.one rfl _ _ rfl rfl rfl ?_)
    rw [World.setRow_alloc_new]
    clear HZ
    have HX5 : Hid (MB (w5.alloc (.cells dt.toArray 38)) w5.heap.size dt) := MB.new w5 dt
    have HBx : Hid (Below w.heap.size w (w5.alloc (.cells dt.toArray 38))) := Below.plus HB5.out _
    have HVx : Hid (MV (w5.alloc (.cells dt.toArray 38)) m0 dt) := HV5.out.later (below_alloc _ _)
    have HAx : Hid (MB (w5.alloc (.cells dt.toArray 38)) A t0) := HA5.out.later (below_alloc _ _)
    clear HB5 HV5 HA5
    generalize w5.alloc (.cells dt.toArray 38) = wx at *
    generalize w5.heap.size = X at *
    have HSx0 : Hid _ := szMv HVx.out
    have HRx : Hid (wx.rangeAt X 0 dt) := HX5.out.all
    have HRa : Hid (wx.rangeAt A 0 t0) := HAx.out.all
    have h6 := sameT HVx.out (HV0.out.later HBx.out) rfl
    clear HX5 HAx HVx
    go_wp2_with (first | (refine ldM HRx.out Try.underlying38 rfl HSx0.out _ rfl rfl rfl ?_) | (refine ldM HRa.out Try.underlying38 rfl HS0.out _ rfl rfl rfl ?_))
    refine h6.mono ?_
    rintro e w6 ⟨rfl, hb6⟩
    have HB6 : Hid (Below w.heap.size w w6) := Below.join HBx.out hb6
    clear h6 hb6 HBx HRx HRa HI2 HSm
    have h7 := dec_mv s1 w6 (by have := HL.out; omega)
    have hcs := dc_cases s1
    generalize dcE (tb (bys s1)) = E at *
    generalize dcM (tb (bys s1)) = x at *
    go_wp2_with fail
    refine h7.mono ?_
    rintro e w7 ⟨ct, rfl, hv, hb7⟩
    have HB7 : Hid (Below w.heap.size w w7) := Below.join HB6.out hb7
    have HV7 : Hid (MV w7 x ct) := hv
    clear h7 hb7 hv HB6
    have HZ : Hid ((w7.alloc (.cells #[.int .i64 0, .int .i64 0, .slice none 0 0, .slice none 0 0, .slice none 0 0, .int .i64 0, .int .i64 0, .int .i64 0, .int .i64 0, .int .i64 0, .int .i64 0, .int .i64 0, .int .i64 0, .int .i64 0, .int .i64 0, .int .i64 0, .int .i64 0, .int .i64 0, .int .i64 0, .int .i64 0, .int .i64 0, .int .i64 0, .int .i64 0, .int .i64 0, .int .i64 0, .string ⟨#[]⟩] 38)).heap[w7.heap.size]? = some (.cells #[.int .i64 0, .int .i64 0, .slice none 0 0, .slice none 0 0, .slice none 0 0, .int .i64 0, .int .i64 0, .int .i64 0, .int .i64 0, .int .i64 0, .int .i64 0, .int .i64 0, .int .i64 0, .int .i64 0, .int .i64 0, .int .i64 0, .int .i64 0, .int .i64 0, .int .i64 0, .int .i64 0, .int .i64 0, .int .i64 0, .int .i64 0, .int .i64 0, .int .i64 0, .string ⟨#[]⟩] 38 (0, 0))) := heap_alloc_last w7 _
    go_upto_region 11 with (refine stW szMg HZ.out rfl ct HV7.out.len HV7.out.one rfl _ _ rfl rfl rfl ?_)
    rw [World.setRow_alloc_new]
    clear HZ
    have HX : Hid (MB (w7.alloc (.cells ct.toArray 38)) w7.heap.size ct) := MB.new w7 ct
    have HB8 : Hid (Below w.heap.size w (w7.alloc (.cells ct.toArray 38))) := Below.plus HB7.out _
    have HV8 : Hid (MV (w7.alloc (.cells ct.toArray 38)) x ct) := HV7.out.later (below_alloc _ _)
    clear HB7 HV7
    generalize w7.alloc (.cells ct.toArray 38) = w8 at *
    generalize w7.heap.size = D at *
    have HSx : Hid _ := szMv HV8.out
    have HR8 : Hid (w8.rangeAt D 0 ct) := HX.out.all
    rcases hcs with ⟨rfl, hg, hs⟩ | ⟨rfl, hz⟩
    · have h9 := HV8.out.enc
      have ee : enE x = 0 := by unfold enE; rw [hg]; rfl
      rw [hs, ee] at h9
      have HG : Hid (gM x = true) := hg
      clear hs hg ee
      go_wp2_with (refine ldM HR8.out Try.underlying38 rfl HSx.out _ rfl rfl rfl ?_)
      refine h9.mono ?_
      rintro e w9 ⟨rfl, hb9⟩
      have HB9 : Hid (Below w.heap.size w w9) := Below.join HB8.out hb9
      have HR9 : Hid (w9.rangeAt D 0 ct) := (HX.out.later hb9).all
      have h10 := goodV (HV8.out.later hb9)
      rw [HG.out] at h10
      clear h9 hb9 HB8 HR8 HV8 HX
      have hse : (s1.toList == s1.toList) = true := by simp
      go_wp2_with (refine ldM HR9.out Try.underlying38 rfl HSx.out _ rfl rfl rfl ?_)
      refine h10.mono ?_
      rintro e wa ⟨rfl, hba⟩
      have HBa : Hid (Below w.heap.size w wa) := Below.join HB9.out hba
      clear h10 hba HB9
      go_wp2_with fail
      go_ret
      exact ⟨rfl, HBa.out⟩
    · have h9 := sameT HV8.out (zM_mv w8) hz
      clear hz
      go_wp2_with (refine ldM HR8.out Try.underlying38 rfl HSx.out _ rfl rfl rfl ?_)
      refine Calls.mono (by exact h9) ?_
      rintro e w9 ⟨rfl, hb9⟩
      have HB9 : Hid (Below w.heap.size w w9) := Below.join HB8.out hb9
      clear h9 hb9 HB8 HR8 HV8 HX
      go_wp2_with fail
      go_ret
      exact ⟨rfl, HB9.out⟩
  · rw [ga] at h4
    rw [ea]
    clear HI ga ea HSm
    go_wp2_with (refine ldM HR3.out Try.underlying38 rfl HS0.out _ rfl rfl rfl ?_)
    refine h4.mono ?_
    rintro e w6 ⟨rfl, hb6⟩
    have HB6 : Hid (Below w.heap.size w w6) := Below.join HB3.out hb6
    clear hb6 HB3 HA3 HR3 h4
    have h7 := dec_mv s1 w6 (by have := HL.out; omega)
    have hcs := dc_cases s1
    generalize dcE (tb (bys s1)) = E at *
    generalize dcM (tb (bys s1)) = x at *
    go_wp2_with fail
    refine h7.mono ?_
    rintro e w7 ⟨ct, rfl, hv, hb7⟩
    have HB7 : Hid (Below w.heap.size w w7) := Below.join HB6.out hb7
    have HV7 : Hid (MV w7 x ct) := hv
    clear h7 hb7 hv HB6
    have HZ : Hid ((w7.alloc (.cells #[.int .i64 0, .int .i64 0, .slice none 0 0, .slice none 0 0, .slice none 0 0, .int .i64 0, .int .i64 0, .int .i64 0, .int .i64 0, .int .i64 0, .int .i64 0, .int .i64 0, .int .i64 0, .int .i64 0, .int .i64 0, .int .i64 0, .int .i64 0, .int .i64 0, .int .i64 0, .int .i64 0, .int .i64 0, .int .i64 0, .int .i64 0, .int .i64 0, .int .i64 0, .string ⟨#[]⟩] 38)).heap[w7.heap.size]? = some (.cells #[.int .i64 0, .int .i64 0, .slice none 0 0, .slice none 0 0, .slice none 0 0, .int .i64 0, .int .i64 0, .int .i64 0, .int .i64 0, .int .i64 0, .int .i64 0, .int .i64 0, .int .i64 0, .int .i64 0, .int .i64 0, .int .i64 0, .int .i64 0, .int .i64 0, .int .i64 0, .int .i64 0, .int .i64 0, .int .i64 0, .int .i64 0, .int .i64 0, .int .i64 0, .string ⟨#[]⟩] 38 (0, 0))) := heap_alloc_last w7 _
    go_upto_region 11 with (refine stW szMg HZ.out rfl ct HV7.out.len HV7.out.one rfl _ _ rfl rfl rfl ?_)
    rw [World.setRow_alloc_new]
    clear HZ
    have HX : Hid (MB (w7.alloc (.cells ct.toArray 38)) w7.heap.size ct) := MB.new w7 ct
    have HB8 : Hid (Below w.heap.size w (w7.alloc (.cells ct.toArray 38))) := Below.plus HB7.out _
    have HV8 : Hid (MV (w7.alloc (.cells ct.toArray 38)) x ct) := HV7.out.later (below_alloc _ _)
    clear HB7 HV7
    generalize w7.alloc (.cells ct.toArray 38) = w8 at *
    generalize w7.heap.size = D at *
    have HSx : Hid _ := szMv HV8.out
    have HR8 : Hid (w8.rangeAt D 0 ct) := HX.out.all
    rcases hcs with ⟨rfl, hg, hs⟩ | ⟨rfl, hz⟩
    · have h9 := HV8.out.enc
      have ee : enE x = 0 := by unfold enE; rw [hg]; rfl
      rw [hs, ee] at h9
      have HG : Hid (gM x = true) := hg
      clear hs hg ee
      go_wp2_with (refine ldM HR8.out Try.underlying38 rfl HSx.out _ rfl rfl rfl ?_)
      refine h9.mono ?_
      rintro e w9 ⟨rfl, hb9⟩
      have HB9 : Hid (Below w.heap.size w w9) := Below.join HB8.out hb9
      have HR9 : Hid (w9.rangeAt D 0 ct) := (HX.out.later hb9).all
      have h10 := goodV (HV8.out.later hb9)
      rw [HG.out] at h10
      clear h9 hb9 HB8 HR8 HV8 HX
      have hse : (s1.toList == s1.toList) = true := by simp
      go_wp2_with (refine ldM HR9.out Try.underlying38 rfl HSx.out _ rfl rfl rfl ?_)
      refine h10.mono ?_
      rintro e wa ⟨rfl, hba⟩
      have HBa : Hid (Below w.heap.size w wa) := Below.join HB9.out hba
      clear h10 hba HB9
      go_wp2_with fail
      go_ret
      exact ⟨rfl, HBa.out⟩
    · have h9 := sameT HV8.out (zM_mv w8) hz
      clear hz
      go_wp2_with (refine ldM HR8.out Try.underlying38 rfl HSx.out _ rfl rfl rfl ?_)
      refine Calls.mono (by exact h9) ?_
      rintro e w9 ⟨rfl, hb9⟩
      have HB9 : Hid (Below w.heap.size w w9) := Below.join HB8.out hb9
      clear h9 hb9 HB8 HR8 HV8 HX
      go_wp2_with fail
      go_ret
      exact ⟨rfl, HB9.out⟩
theorem own : ownKnob Try.prog.godebug = none := by kernel_rfl
theorem laidOut : laidOutB Try.prog = true := by kernel_rfl
theorem text_reach {s : ByteArray} (h : s.data.toList.length ≤ reachBytes) : s.size ≤ 140737488351232 := by
  have e2 : s.data.toList.length = s.data.size := Array.length_toList
  have e1 : s.size = s.data.size := rfl
  unfold reachBytes at h
  omega
set_option maxRecDepth 100000 in
theorem lifted (os : Os) (started : os.Started) (H : Type) (enc : TypeId × Value → H) :
    ReturnsInHanded {} Try.checked os 3 .any (Rows.wireBackSpec.pre6 enc Try.prog Try.f3 Rows.wireBackRow.domain false) (Rows.wireBackSpec.post enc Try.prog Try.f3 false true false false) := by
  refine returnsInHanded_of_change_sized (C := Try.checked) own started (by kernel_rfl) Try.func3
    (ChangeSpec.witness6 (enc := enc) (C := Try.checked) false ⟨#[], #[.agg #[.int .i64 0, .int .i64 0, .slice none 0 0, .slice none 0 0, .slice none 0 0, .int .i64 0, .int .i64 0, .int .i64 0, .int .i64 0, .int .i64 0, .int .i64 0, .int .i64 0, .int .i64 0, .int .i64 0, .int .i64 0, .int .i64 0, .int .i64 0, .int .i64 0, .int .i64 0, .int .i64 0, .int .i64 0, .int .i64 0, .int .i64 0, .int .i64 0, .int .i64 0, .string ⟨#[]⟩], .string ⟨#[]⟩], []⟩ 8 (by kernel_rfl) (by kernel_rfl) (by kernel_rfl) (by kernel_rfl)) ?_
  intro W base args ds gs before hval0 hW hcnd hsz0 _
  have hsz : (DataW.weightsEach Try.prog (Try.f3.params.toList ++ Rows.wireBackSpec.plain.varTypes Try.prog) (ds ++ gs)).all (· ≤ reachBytes) = true := hsz0
  clear hsz0
  have hval : ∀ (j : Nat) t v, Try.f3.params[j]? = some t → args[j]? = some v → Value.okWide Try.prog W .any base t v := hval0
  have hW' := hW
  obtain ⟨p, q, hA0, hV, rfl, hfz, hnd⟩ := hW
  have hA : DataW.TrodAll enc Try.prog W 0 (fun _ => true) true Try.f3.params.toList args.toList ds p := hA0
  rw [Try.params3] at hA hval hsz
  obtain ⟨v0, vs0, d0, ds0, p0, q0, hargs, rfl, rfl, h0, r0⟩ := trodAll_cons hA
  obtain ⟨v1, vs1, d1, ds1, p1, q1, rfl, rfl, rfl, h1, r1⟩ := trodAll_cons r0
  obtain ⟨rfl, rfl, rfl⟩ := trodAll_nil r1
  obtain rfl : args = #[v0, v1] := by cases args; simp_all
  obtain ⟨rfl, rfl⟩ := trodVars_none hV
  have k0 := h0
  have lt0 : ∀ x ∈ p0, x.block < W.heap.size := by obtain ⟨m, hm⟩ := k0; exact DataW.trod_lt m _ _ _ hm
  obtain ⟨m0, t0, rfl, mv0⟩ := Wi.open_mv (fun parts e => by subst e; exact Wi.sized_agg hsz (j := 0) (t := 38) rfl rfl Try.underlying38) (hval 0 38 v0 rfl rfl) h0
  obtain ⟨s1, rfl, rfl, rfl, hs1⟩ := Go.ChangeMaps.open_string Try.underlying9 (hval 1 9 v1 rfl rfl) h1
  have hl1 : s1.size ≤ 140737488351232 := text_reach (sized_string hsz (j := 1) (t := 9) rfl rfl)
  clear hA0 hval0
  refine (walk m0 t0 s1 W mv0 hl1).mono fun e W' ⟨he, bel⟩ => ?_
  subst he
  exact ⟨_, rfl, _, _, _, [], _, [], hW', trodAll_mk1 (shut_bool Try.underlying4 _), (trodAll_cons_mk (Below.trod laidOut (by kernel_rfl) (of_decide_eq_true (by kernel_rfl)) k0 bel lt0) (trodAll_cons_mk (Go.ChangeMaps.shut_string Try.underlying9 hs1) trodAll_mk0)), rfl, bel.frame _, fun h => by cases h⟩
theorem over : Rows.wireBackRow.holds Try.pinned (OpenSpec.ofChange Rows.wireBackSpec) :=
  OpenClaim.holds_of_wide 3 Try.f3 rfl rfl rfl rfl rfl rfl rfl ⟨rfl, rfl, rfl, rfl, rfl⟩ rfl rfl rfl rfl rfl (by kernel_rfl) Try.func3 (by kernel_rfl)
    (of_decide_eq_true (by kernel_rfl)) (by unfold Func.isWrapper; first | (rw [if_pos (by decide +kernel)]; kernel_rfl) | (rw [if_neg (by decide +kernel)]; exact ⟨rfl, rfl⟩))
    (fun os started H enc _ => lifted os started H enc)
end Go.Proofs.Ytdkfifnhmfbagaa.wireBack
namespace Go.Proofs.Ytdkfifnhmfbagaa
theorem wireBack_holds : Rows.WireBackSaid := wireBack.over
#print axioms wireBack_holds
end Go.Proofs.Ytdkfifnhmfbagaa
