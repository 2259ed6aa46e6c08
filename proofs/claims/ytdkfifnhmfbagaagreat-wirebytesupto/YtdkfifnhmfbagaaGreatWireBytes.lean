/- For every message and every text (of a bulk of 1048576 at most, the second form's own): Good, Encode and Decode answer what the document says. No further conditions. -/
import Derived.Test.YtdkfifnhmfbagaaGreatRows
import Derived.Test.YtdkfifnhmfbagaaGreatWiJ7
import Derived.Test.YtdkfifnhmfbagaaGreatOpJ
import Derived.OpenShut
import Derived.JoinedCond
import Derived.ChangeMaps5
namespace Go.Proofs.YtdkfifnhmfbagaaGreat.wireBytes
open Go.ChangeShapes Go.WideShapes Go.ChangeAt Go.RowKit Go.Maps
open Go.Proofs.YtdkfifnhmfbagaaGreat.Wi
open Bt (tx pk tb bys)
set_option linter.unusedVariables false
set_option linter.unusedSimpArgs false

set_option maxHeartbeats 2000000 in
set_option maxRecDepth 100000 in
theorem walk (m0 : Msg) (t0 : List Value) (s1 : ByteArray) (w : World) (mv0 : MV w m0 t0) (ln0 : m0.rk.2.1.length ≤ 1048576 ∧ m0.rk.2.2.1.length ≤ 1048576 ∧ m0.rk.2.2.2.length ≤ 1048576) (hl1 : s1.size ≤ 1048576) :
    Calls Tryz.prog 3 #[.agg t0.toArray, .string s1] w fun e w' => e = .returned (.bool true) ∧ Below w.heap.size w w' := by
  have HL : Hid (s1.size ≤ 1048576) := hl1
  have HV0 : Hid (MV w m0 t0) := mv0
  have hA0 := MB.new w t0
  have hb0 := below_alloc w (.cells t0.toArray 38)
  have HB1 : Hid (Below w.heap.size w (w.alloc (.cells t0.toArray 38))) := hb0
  have HS0 : Hid _ := szMv mv0
  clear hb0 mv0 hl1 ln0
  go_enter Tryz.func3, Tryz.ntmps3
  go_upto_region 1 with (fail)
  generalize w.alloc (.cells t0.toArray 38) = w1 at *
  obtain ⟨A, hAe⟩ : ∃ C, w.heap.size = C := ⟨_, rfl⟩
  rw [hAe] at hA0 ⊢
  clear hAe
  have HA0 : Hid (MB w1 A t0) := hA0
  clear hA0
  have HBd : Hid (Below w.heap.size w w1.drew) := Below.join HB1.out (drew_below w1)
  have HAd : Hid (MB w1.drew A t0) := HA0.out.later (drew_below w1)
  clear HB1 HA0
  obtain ⟨bg, hbg⟩ : ∃ b, gM m0 = b := ⟨_, rfl⟩
  refine wp_region_held_drew (S := fun W => MB W A t0) (by kernel_rfl) HAd.out (fun hHeld => ?_)
  refine wpAnyH_ready (rs := [0]) (by kernel_rfl) (by simp) ?_
  refine AllReadyH.cons rfl (fun K hK => ?_) AllReadyH.nil
  go_simp
  refine (lives_any _).mono ?_
  rintro e w2 ⟨rfl, hb2⟩
  have HB2 : Hid (Below w.heap.size w w2) := Below.join HBd.out hb2
  have HA2 : Hid (MB w2 A t0) := HAd.out.later hb2
  clear hb2 HBd HAd
  have h3 := goodP (HV0.out.later HB2.out)
  rw [hbg] at h3
  go_wp2_with fail
  refine hK.out _ _ HA2.out (fun hHeld2 => ?_)
  clear hHeld
  clear hK K
  try simp only [Act.put, List.setIfInBounds_toArray, List.set_cons_zero, List.set_cons_succ]
  refine wpAnyH_take (i := 1) (oi := { dst := some 12, op := Op.unOp UnOp.not 4 (Operand.tmp 11), type := _, pos := _, after := _, guard := none }) (v := .bool false) rfl (by kernel_rfl) (by kernel_rfl) (by kernel_rfl) (fun _ _ _ h => h) (Or.inl ⟨by rfl, fun w hSw => by (try dsimp only at hSw); go_simp⟩) (by assumption) ?_
  simp only [Act.put, List.setIfInBounds_toArray, List.set_cons_zero, List.set_cons_succ]
  refine wpAnyH_take (i := 2) (oi := { dst := some 13, op := Op.move (Operand.tmp 12), type := _, pos := _, after := _, guard := none }) (v := .bool false) rfl (by kernel_rfl) (by kernel_rfl) (by kernel_rfl) (fun _ _ _ h => h) (Or.inl ⟨by rfl, fun w hSw => by (try dsimp only at hSw); go_simp⟩) (by assumption) ?_
  simp only [Act.put, List.setIfInBounds_toArray, List.set_cons_zero, List.set_cons_succ]
  refine wpAnyH_take (i := 3) (oi := { dst := some 14, op := Op.load 38 (Operand.tmp 2), type := _, pos := _, after := _, guard := some (2, false) }) (v := .agg t0.toArray) rfl (by kernel_rfl) (by kernel_rfl) (by kernel_rfl) (fun _ _ _ h => h) (Or.inl ⟨by rfl, fun w hSw => ld_ex hSw.all Tryz.underlying38 rfl HS0.out rfl rfl⟩) (by assumption) ?_
  simp only [Act.put, List.setIfInBounds_toArray, List.set_cons_zero, List.set_cons_succ]
  refine wpAnyH_take (i := 5) (oi := { dst := some 16, op := Op.load 38 (Operand.tmp 2), type := _, pos := _, after := _, guard := some (2, false) }) (v := .agg t0.toArray) rfl (by kernel_rfl) (by kernel_rfl) (by kernel_rfl) (fun _ _ _ h => h) (Or.inl ⟨by rfl, fun w hSw => ld_ex hSw.all Tryz.underlying38 rfl HS0.out rfl rfl⟩) (by assumption) ?_
  simp only [Act.put, List.setIfInBounds_toArray, List.set_cons_zero, List.set_cons_succ]
  refine wpAnyH_ready (rs := [4]) (by kernel_rfl) (by simp) ?_
  refine AllReadyH.cons rfl (fun K hK => ?_) AllReadyH.nil
  go_simp
  refine h3.mono ?_
  rintro e w3 ⟨rfl, hb3⟩
  have HB3 : Hid (Below w.heap.size w w3) := Below.join HB2.out hb3
  have HA3 : Hid (MB w3 A t0) := HA2.out.later hb3
  clear hb3 HB2 HA2 h3
  have h4 := goodV (HV0.out.later HB3.out)
  rw [hbg] at h4
  go_wp2_with fail
  refine hK.out _ _ HA3.out (fun hHeld3 => ?_)
  clear hHeld2
  clear hK K
  try simp only [Act.put, List.setIfInBounds_toArray, List.set_cons_zero, List.set_cons_succ]
  refine wpAnyH_ready (rs := [6]) (by kernel_rfl) (by simp) ?_
  refine AllReadyH.cons rfl (fun K hK => ?_) AllReadyH.nil
  go_simp
  refine h4.mono ?_
  rintro e w4 ⟨rfl, hb4⟩
  have HB4 : Hid (Below w.heap.size w w4) := Below.join HB3.out hb4
  have HA4 : Hid (MB w4 A t0) := HA3.out.later hb4
  clear hb4 HB3 HA3 h4
  go_wp2_with fail
  refine hK.out _ _ HA4.out (fun hHeld4 => ?_)
  clear hHeld3
  clear hK K
  try simp only [Act.put, List.setIfInBounds_toArray, List.set_cons_zero, List.set_cons_succ]
  refine wpAnyH_take (i := 7) (oi := { dst := some 18, op := Op.binOp BinOp.neq 4 (Operand.tmp 15) (Operand.tmp 17) 4, type := _, pos := _, after := _, guard := some (2, false) }) (v := .bool false) rfl (by kernel_rfl) (by kernel_rfl) (by kernel_rfl) (fun _ _ _ h => h) (Or.inl ⟨by rfl, fun w hSw => by (try dsimp only at hSw); go_simp⟩) (by assumption) ?_
  simp only [Act.put, List.setIfInBounds_toArray, List.set_cons_zero, List.set_cons_succ]
  refine wpAnyH_take (i := 8) (oi := { dst := some 19, op := Op.pick (Operand.tmp 13) (Operand.const (Value.bool true)) (Operand.tmp 18), type := _, pos := _, after := _, guard := none }) (v := .bool false) rfl (by kernel_rfl) (by kernel_rfl) (by kernel_rfl) (fun _ _ _ h => h) (Or.inl ⟨by rfl, fun w hSw => by (try dsimp only at hSw); go_simp⟩) (by assumption) ?_
  simp only [Act.put, List.setIfInBounds_toArray, List.set_cons_zero, List.set_cons_succ]
  refine wpAnyH_done (by kernel_rfl) ?_ _
  have HR4 : Hid (w4.rangeAt A 0 t0) := HA4.out.all
  have h5 := (HV0.out.later HB4.out).enc
  clear hbg
  go_wp2_with (refine ldM HR4.out Tryz.underlying38 rfl HS0.out _ rfl rfl rfl ?_)
  refine h5.mono ?_
  rintro e w5 ⟨rfl, hb5⟩
  have HB5 : Hid (Below w.heap.size w w5) := Below.join HB4.out hb5
  have HA5 : Hid (MB w5 A t0) := HA4.out.later hb5
  have HR5 : Hid (w5.rangeAt A 0 t0) := HA5.out.all
  clear hb5 HB4 HA4 h5 HR4
  have h6 := (HV0.out.later HB5.out).rEnc
  go_wp2_with (refine ldM HR5.out Tryz.underlying38 rfl HS0.out _ rfl rfl rfl ?_)
  refine h6.mono ?_
  rintro e w6 ⟨rfl, hb6⟩
  have HB6 : Hid (Below w.heap.size w w6) := Below.join HB5.out hb6
  clear hb6 HB5 HA5 h6 HR5
  generalize enS m0 = s0 at *
  generalize enE m0 = e0 at *
  have hse : (s0.toList == s0.toList) = true := by simp
  have hde : (e0 == e0) = true := by simp
  have h7 := dec_mv s1 w6 (by have := HL.out; omega)
  obtain ⟨de, hde2⟩ : ∃ x, dcE (tb (bys s1)) = x := ⟨_, rfl⟩
  obtain ⟨dm, hdm⟩ : ∃ x, dcM (tb (bys s1)) = x := ⟨_, rfl⟩
  have HDE : Hid (dcE (tb (bys s1)) = de ∧ dcM (tb (bys s1)) = dm) := ⟨hde2, hdm⟩
  rw [hde2, hdm] at h7
  clear hde2 hdm
  go_wp2_with fail
  refine h7.mono ?_
  rintro e w7 ⟨ct, rfl, hv, hb7⟩
  have HB7 : Hid (Below w.heap.size w w7) := Below.join HB6.out hb7
  have HV7 : Hid (MV w7 dm ct) := hv
  clear h7 hb7 hv HB6 hse hde
  go_upto_region 8 with (refine stN szMg rfl ct HV7.out.len HV7.out.one rfl _ _ rfl rfl rfl ?_)
  have HX : Hid (MB (w7.alloc (.cells ct.toArray 38)) w7.heap.size ct) := MB.new w7 ct
  have HB8 : Hid (Below w.heap.size w (w7.alloc (.cells ct.toArray 38))) := Below.plus HB7.out _
  have HV8 : Hid (MV (w7.alloc (.cells ct.toArray 38)) dm ct) := HV7.out.later (below_alloc _ _)
  clear HB7 HV7
  generalize w7.alloc (.cells ct.toArray 38) = w8 at *
  generalize w7.heap.size = X at *
  have h9 := rDec_mo s1 w8 (by have := HL.out; omega)
  rw [HDE.out.1, HDE.out.2] at h9
  go_wp2_with fail
  refine h9.mono ?_
  rintro e w9 ⟨dt, rfl, hv, hb9⟩
  have HB9 : Hid (Below w.heap.size w w9) := Below.join HB8.out hb9
  have HV9 : Hid (MV w9 dm ct) := HV8.out.later hb9
  have HU9 : Hid (MV w9 dm dt) := hv.mv
  have HX9 : Hid (MB w9 X ct) := HX.out.later hb9
  clear h9 hb9 hv HB8 HV8 HX
  go_upto_region 9 with (refine stN szMg rfl dt HU9.out.len HU9.out.one rfl _ _ rfl rfl rfl ?_)
  have HY : Hid (MB (w9.alloc (.cells dt.toArray 38)) w9.heap.size dt) := MB.new w9 dt
  have HBa : Hid (Below w.heap.size w (w9.alloc (.cells dt.toArray 38))) := Below.plus HB9.out _
  have HVa : Hid (MV (w9.alloc (.cells dt.toArray 38)) dm ct) := HV9.out.later (below_alloc _ _)
  have HUa : Hid (MV (w9.alloc (.cells dt.toArray 38)) dm dt) := HU9.out.later (below_alloc _ _)
  have HXa : Hid (MB (w9.alloc (.cells dt.toArray 38)) X ct) := HX9.out.later (below_alloc _ _)
  clear HB9 HV9 HU9 HX9
  generalize w9.alloc (.cells dt.toArray 38) = wa at *
  generalize w9.heap.size = Y at *
  have HSx : Hid _ := szMv HVa.out
  have HSy : Hid _ := szMv HUa.out
  have HRx : Hid (wa.rangeAt X 0 ct) := HXa.out.all
  have HRy : Hid (wa.rangeAt Y 0 dt) := HY.out.all
  have ha := sameT HVa.out HUa.out rfl
  clear HXa HY HVa HUa
  have hdd : (de == de) = true := by simp
  go_wp2_with (first | (refine ldM HRx.out Tryz.underlying38 rfl HSx.out _ rfl rfl rfl ?_) | (refine ldM HRy.out Tryz.underlying38 rfl HSy.out _ rfl rfl rfl ?_))
  refine ha.mono ?_
  rintro e wb ⟨rfl, hbb⟩
  have HBb : Hid (Below w.heap.size w wb) := Below.join HBa.out hbb
  clear ha hbb HBa
  go_wp2_with fail
  go_ret
  exact ⟨rfl, HBb.out⟩
theorem own : ownKnob Tryz.prog.godebug = none := by kernel_rfl
theorem laidOut : laidOutB Tryz.prog = true := by kernel_rfl
set_option maxRecDepth 100000 in
theorem contract (H : Type) (enc : TypeId × Value → H) (W : World) (base : Nat) (args : Array Value) (ds gs : List (DataW H)) (before : List MemPlace)
    (hval : ∀ (j : Nat) t v, Tryz.f3.params[j]? = some t → args[j]? = some v → Value.okWide Tryz.prog W .any base t v)
    (hW : DataW.Whole enc Tryz.prog Tryz.f3.params.toList Rows.wireBytesSpec.vars false W args.toList ds gs before) (hk : Rows.uptoSmall H (ds ++ gs) = true) :
    Calls Tryz.prog 3 args W fun e W' => ∃ v, e = .returned v ∧ Rows.wireBytesSpec.post enc Tryz.prog Tryz.f3 false true false false W args v W' := by
  have hW' := hW
  obtain ⟨p, q, hA0, hV, rfl, hfz, hnd⟩ := hW
  have hA : DataW.TrodAll enc Tryz.prog W 0 (fun _ => true) true Tryz.f3.params.toList args.toList ds p := hA0
  rw [Tryz.params3] at hA hval
  obtain ⟨v0, vs0, d0, ds0, p0, q0, hargs, rfl, rfl, h0, r0⟩ := trodAll_cons hA
  obtain ⟨v1, vs1, d1, ds1, p1, q1, rfl, rfl, rfl, h1, r1⟩ := trodAll_cons r0
  obtain ⟨rfl, rfl, rfl⟩ := trodAll_nil r1
  obtain rfl : args = #[v0, v1] := by cases args; simp_all
  obtain ⟨rfl, rfl⟩ := trodVars_none hV
  have hk2 : Rows.uptoSmall H [d0, d1] = true := by simpa using hk
  have hb : Rows.uptoBulkAll [d0, d1] ≤ 1048576 := of_decide_eq_true hk2
  simp only [Rows.uptoBulkAll] at hb
  have k0 := h0
  have lt0 : ∀ x ∈ p0, x.block < W.heap.size := by obtain ⟨m, hm⟩ := k0; exact DataW.trod_lt m _ _ _ hm
  obtain ⟨m0, t0, rfl, mv0, ln0⟩ := open_mvU (by omega) (hval 0 38 v0 rfl rfl) h0
  have k1 := h1
  have lt1 : ∀ x ∈ p1, x.block < W.heap.size := by obtain ⟨m, hm⟩ := k1; exact DataW.trod_lt m _ _ _ hm
  obtain ⟨s1, rfl, rfl, rfl, hs1⟩ := Go.ChangeMaps.open_string Tryz.underlying9 (hval 1 9 v1 rfl rfl) h1
  have hl1 := bulk_text (H := H) (s := s1) (by omega)
  clear hA0
  refine (walk m0 t0 s1 W mv0 ln0 hl1).mono fun e W' ⟨he, bel⟩ => ?_
  subst he
  exact ⟨_, rfl, _, _, _, [], _, [], hW', trodAll_mk1 (shut_bool Tryz.underlying4 _), (trodAll_cons_mk (Below.trod laidOut (by kernel_rfl) (of_decide_eq_true (by kernel_rfl)) k0 bel lt0) (trodAll_cons_mk (Below.trod laidOut (by kernel_rfl) (of_decide_eq_true (by kernel_rfl)) k1 bel lt1) trodAll_mk0)), rfl, bel.frame _, fun h => by cases h⟩
set_option maxRecDepth 100000 in
theorem lifted (os : Os) (started : os.Started) (H : Type) (enc : TypeId × Value → H) (F : Stop.Interp) :
    ReturnsInHanded {} Tryz.checked os 3 .any ((Rows.OpenSpec.upto Rows.wireBytesSpec).pre6 enc Tryz.prog Tryz.f3 Rows.wireBytesUptoRow.domain false) (((Rows.OpenSpec.upto Rows.wireBytesSpec).at F).post enc Tryz.prog Tryz.f3 false true false false) := by
  refine returnsInHanded_of_cond (C := Tryz.checked) (s := Rows.OpenSpec.upto Rows.wireBytesSpec) (k := Rows.uptoSmall) rfl own started (by kernel_rfl) Tryz.func3
    (OpenSpec.witness (enc := enc) (C := Tryz.checked) (s := Rows.OpenSpec.upto Rows.wireBytesSpec) (k := Rows.uptoSmall) rfl false ⟨#[], #[.agg #[.int .i64 0, .int .i64 0, .slice none 0 0, .slice none 0 0, .slice none 0 0, .int .i64 0, .int .i64 0, .int .i64 0, .int .i64 0, .int .i64 0, .int .i64 0, .int .i64 0, .int .i64 0, .int .i64 0, .int .i64 0, .int .i64 0, .int .i64 0, .int .i64 0, .int .i64 0, .int .i64 0, .int .i64 0, .int .i64 0, .int .i64 0, .int .i64 0, .int .i64 0, .string ⟨#[]⟩], .string ⟨#[]⟩], []⟩ 8 (by kernel_rfl) (by kernel_rfl) (by kernel_rfl)
      (x := ([.agg [.lit (.int .i64 0), .agg [.lit (.int .i64 0), .nil, .nil, .nil], .agg [.lit (.int .i64 0), .lit (.int .i64 0)], .agg [.lit (.int .i64 0), .lit (.int .i64 0), .lit (.int .i64 0), .agg [.agg [.agg [.lit (.int .i64 0), .lit (.int .i64 0)], .agg [.lit (.int .i64 0), .lit (.int .i64 0)]], .agg [.agg [.lit (.int .i64 0), .lit (.int .i64 0)], .agg [.lit (.int .i64 0), .lit (.int .i64 0)]], .agg [.agg [.lit (.int .i64 0), .lit (.int .i64 0)], .agg [.lit (.int .i64 0), .lit (.int .i64 0)]]]], .agg [.lit (.int .i64 0), .agg [.lit (.int .i64 0), .lit (.int .i64 0)], .lit (.string [])]], .lit (.string [])], [], [])) (by kernel_rfl) rfl (by kernel_rfl)) ?_
  intro W base args ds gs before hval hW _ hk _
  exact contract H enc W base args ds gs before hval hW hk
theorem over : Rows.wireBytesUptoRow.holds Tryz.pinned (Rows.OpenSpec.upto Rows.wireBytesSpec) :=
  OpenClaim.holds_of_cond 3 Tryz.f3 rfl rfl rfl rfl rfl rfl rfl ⟨rfl, rfl, rfl, rfl, rfl⟩ rfl rfl rfl rfl rfl (by kernel_rfl) Tryz.func3 (by kernel_rfl)
    (of_decide_eq_true (by kernel_rfl)) (by unfold Func.isWrapper; first | (rw [if_pos (by decide +kernel)]; kernel_rfl) | (rw [if_neg (by decide +kernel)]; exact ⟨rfl, rfl⟩))
    (fun os started H enc _ F => lifted os started H enc F)
end Go.Proofs.YtdkfifnhmfbagaaGreat.wireBytes
namespace Go.Proofs.YtdkfifnhmfbagaaGreat
theorem wireBytes_holds : Rows.WireBytesUptoSaid := wireBytes.over
#print axioms wireBytes_holds
end Go.Proofs.YtdkfifnhmfbagaaGreat
