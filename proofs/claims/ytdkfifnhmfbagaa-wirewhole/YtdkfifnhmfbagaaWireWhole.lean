/- For every message and every octet: of what is encoded no strict beginning is taken, and none with an octet more; what can't be encoded has the empty text. No conditions. -/
import Derived.Test.YtdkfifnhmfbagaaRows
import Derived.Test.YtdkfifnhmfbagaaWiKa
import Derived.Test.YtdkfifnhmfbagaaOpenWi
import Derived.OpenShut
import Derived.SizedLaws
import Derived.ChangeMaps5
import Derived.Laws.IdiomStrings
namespace Go.Proofs.Ytdkfifnhmfbagaa.wireWhole
open Go.ChangeShapes Go.WideShapes Go.ChangeAt Go.RowKit Go.Maps
open Go.Proofs.Ytdkfifnhmfbagaa.Wi
open Bt (tx pk tb bys)
set_option linter.unusedVariables false
set_option linter.unusedSimpArgs false

theorem stN {T : TypeId} {n : Nat} (hi : (Try.prog.info? T).map (·.size) = some n) {ops : Array Oper} {rest : List Oper} {o : Oper} {a : Act} {w0 : World} {Q : Exit → Act → World → Prop} {cs : Array Value} (hs : cs.size = n) (ds : List Value) (hd : ds.length = n) (h1 : ds.all (·.oneCell') = true) (hgd : o.guard = none) (x y : Operand) (ho : o.op = .store T x y)
    (hx : a.eval x = .pointer (some ⟨w0.heap.size, 0, none⟩)) (hy : a.eval y = .agg ds.toArray) (k : wpList Try.prog ops Q rest (a.put o.dst undef) (w0.alloc (.cells ds.toArray T))) : wpList Try.prog ops Q (o :: rest) a (w0.alloc (.cells cs T)) := by
  refine stW hi (heap_alloc_last w0 _) hs ds hd h1 hgd x y ho hx hy ?_
  rw [World.setRow_alloc_new]
  exact k
theorem conv_1 (a : Int) (h0 : 0 ≤ a) (h1 : a < 256) (w : World) (T : TypeId) : (convert 48 9 (.slice (some ⟨w.heap.size, 0, none⟩) 1 1)).run Try.prog (w.alloc (.cells #[.int .u8 a] T)) = .ok (.string (tx [a.toNat])) (w.alloc (.cells #[.int .u8 a] T)) := by
  have hc := run_convert_bytes_back (P := Try.prog) (w.alloc (.cells #[.int .u8 a] T)) 48 9 5 ⟨w.heap.size, 0, none⟩ 1 ([a.toNat].map UInt8.ofNat) Try.underlying48 Try.underlying5 Try.underlying9 (fun j hj => by
      simp at hj
      subst hj
      have : (a.toNat : Int) = a := by omega
      simp [go_sem, Addr.add, UInt8.toNat_ofNat']; omega)
  exact hc
theorem cut_at (s : ByteArray) (k : Nat) (h : k < s.size) : ∃ z, s = s.extract 0 k ++ z ∧ z.size ≠ 0 := by
  refine ⟨s.extract k s.size, ?_, ?_⟩
  · have : s.extract 0 k ++ s.extract k s.size = s.extract 0 s.size := by
      apply ByteArray.ext
      simp
    rw [this, ByteArray.extract_zero_size]
  · simp; omega
theorem dc_less {m : Msg} (h : gM m = true) (k : Nat) (hk : k < (enS m).size) : dcE (tb (bys ((enS m).extract 0 k))) = 13 := by
  obtain ⟨z, e, hz⟩ := cut_at _ k hk
  unfold dcE
  rw [en_less h e hz]
  rfl
theorem dc_more {m : Msg} (h : gM m = true) (b : Nat) : dcE (tb (bys (enS m ++ tx [b]))) = 13 := by
  unfold dcE
  rw [en_more h (by rw [Bt.tx_size]; exact Nat.one_ne_zero)]
  rfl
set_option maxHeartbeats 2000000 in
set_option maxRecDepth 100000 in
theorem walk (m0 : Msg) (t0 : List Value) (a1 : Int) (w : World) (mv0 : MV w m0 t0) (w1 : (Lit.int .u8 a1).wf = true) :
    Calls Try.prog 4 #[.agg t0.toArray, .int .u8 a1] w fun e w' => e = .returned (.bool true) ∧ Below w.heap.size w w' := by
  have HWF : Hid (0 ≤ a1 ∧ a1 < 256) := by
    have hwf := w1
    simp [Lit.wf, IntKind.min, IntKind.max, IntKind.bits, IntKind.signed] at hwf
    unfold Hid
    omega
  clear w1
  have HV0 : Hid (MV w m0 t0) := mv0
  have hA0 := MB.new w t0
  have hb0 := below_alloc w (.cells t0.toArray 38)
  have HB1 : Hid (Below w.heap.size w (w.alloc (.cells t0.toArray 38))) := hb0
  have HS0 : Hid _ := szMv mv0
  clear hb0 mv0
  go_enter Try.func4, Try.ntmps4
  go_upto_region 1 with (fail)
  generalize w.alloc (.cells t0.toArray 38) = w1 at *
  obtain ⟨A, hAe⟩ : ∃ C, w.heap.size = C := ⟨_, rfl⟩
  rw [hAe] at hA0 ⊢
  clear hAe
  have HA0 : Hid (MB w1 A t0) := hA0
  clear hA0
  go_wp2_with fail
  refine (lives_any _).mono ?_
  rintro e w2 ⟨rfl, hb2⟩
  have HB2 : Hid (Below w.heap.size w w2) := Below.join HB1.out hb2
  have HA2 : Hid (MB w2 A t0) := HA0.out.later hb2
  have HR2 : Hid (w2.rangeAt A 0 t0) := HA2.out.all
  clear hb2 HB1 HA0
  have h3 := (HV0.out.later HB2.out).enc
  go_wp2_with (refine ldM HR2.out Try.underlying38 rfl HS0.out _ rfl rfl rfl ?_)
  refine h3.mono ?_
  rintro e w3 ⟨rfl, hb3⟩
  have HB3 : Hid (Below w.heap.size w w3) := Below.join HB2.out hb3
  clear hb3 HB2 HA2 h3 HR2 HV0 HS0
  rcases enE_cases m0 with ⟨ga, ea⟩ | ⟨ga, ea⟩
  · have HL : Hid (∀ k, k < (enS m0).size → dcE (tb (bys ((enS m0).extract 0 k))) = 13) := dc_less ga
    have HM : Hid (∀ b, dcE (tb (bys (enS m0 ++ tx [b]))) = 13) := dc_more ga
    have HSm : Hid ((enS m0).size ≤ 131073) := en_small m0
    rw [ea]
    generalize enS m0 = s at *
    clear ga ea
    obtain ⟨z, hz⟩ : ∃ z, s.size = z := ⟨_, rfl⟩
    have HZ : Hid (s.size = z) := hz
    have hz' : z ≤ 131073 := by rw [← hz]; exact HSm.out
    go_wp2_with fail
    go_loopw [7] (fun i wr => ∃ k : Nat, k ≤ 400 ∧ i = .int .i64 (k : Int) ∧ Below w.heap.size w wr) (fun i _ => 400 - (intOf i).toNat)
    case atStart => exact ⟨0, by omega, rfl, HB3.out⟩
    case round =>
      obtain ⟨k, hk, rfl, hb⟩ := hrel
      have HBr : Hid (Below w.heap.size w wr) := hb
      clear hb
      by_cases hkz : k < z
      · by_cases hk4 : k < 400
        · have d1 : (k : Int) < (z : Int) := by omega
          have d2 : (k : Int) < 400 := by omega
          have d3 : (0 : Int) ≤ (k : Int) := by omega
          have d4 : (k : Int) ≤ (z : Int) := by omega
          have h5 := dec_mv (s.extract 0 k) wr (by have := HSm.out; simp; omega)
          rw [HL.out k (by rw [hz]; exact hkz)] at h5
          generalize dcM (tb (bys (s.extract 0 k))) = x5 at *
          go_wp2_with fail
          refine h5.mono ?_
          rintro e w5 ⟨ct, rfl, hv5, hb5⟩
          have HV5 : Hid (MV w5 x5 ct) := hv5
          have HB5 : Hid (Below w.heap.size w (w5.alloc (.cells ct.toArray 38))) := Below.plus (Below.join HBr.out hb5) _
          clear h5 hv5 hb5 HBr
          have h6 := dec_mv (s.extract 0 (z - 1 - k)) (w5.alloc (.cells ct.toArray 38)) (by have := HSm.out; simp; omega)
          rw [HL.out (z - 1 - k) (by rw [hz]; omega)] at h6
          generalize dcM (tb (bys (s.extract 0 (z - 1 - k)))) = x6 at *
          have e1 : IntKind.i64.wrap ((z : Int) - 1) = ((z : Int) - 1) := by rw [Bt.wrap_fit _ (by omega) (by omega)]
          have e2 : IntKind.i64.wrap ((z : Int) - 1 - (k : Int)) = ((z - 1 - k : Nat) : Int) := by rw [Bt.wrap_fit _ (by omega) (by omega)]; omega
          have d5 : (0 : Int) ≤ ((z - 1 - k : Nat) : Int) := by omega
          have d6 : ((z - 1 - k : Nat) : Int) ≤ (z : Int) := by omega
          go_wp2_with (refine stN szMg rfl ct HV5.out.len HV5.out.one rfl _ _ rfl rfl rfl ?_)
          refine h6.mono ?_
          rintro e w6 ⟨dt, rfl, hv6, hb6⟩
          have HV6 : Hid (MV w6 x6 dt) := hv6
          have HB6 : Hid (Below w.heap.size w (w6.alloc (.cells dt.toArray 38))) := Below.plus (Below.join HB5.out hb6) _
          clear h6 hv6 hb6 HB5 HV5
          go_wp2_with (refine stN szMg rfl dt HV6.out.len HV6.out.one rfl _ _ rfl rfl rfl ?_)
          go_roundw
          case rel => exact ⟨k + 1, by omega, by go_num, HB6.out⟩
          case measure => simp [intOf]; omega
        · have d1 : (k : Int) < (z : Int) := by omega
          have d2 : decide ((k : Int) < 400) = false := by simp; omega
          have hcv := conv_1 a1 HWF.out.1 HWF.out.2 wr 5
          have h7 := dec_mv (s ++ tx [a1.toNat]) (wr.alloc (.cells #[.int .u8 a1] 5)) (by have := HSm.out; rw [ByteArray.size_append, Bt.tx_size]; show s.size + 1 < _; omega)
          rw [HM.out] at h7
          generalize dcM (tb (bys (s ++ tx [a1.toNat]))) = x7 at *
          have ht1 : (tx [a1.toNat]).size = 1 := Bt.tx_size _
          have hm1 : ¬ 9223372036854775807 < s.size + (tx [a1.toNat]).size := by have := HSm.out; omega
          have hm2 : ¬ 9223372036854775807 < z + (tx [a1.toNat]).size := by omega
          have hm3 : ¬ 9223372036854775807 < z + 1 := by omega
          have HBs : Hid (Below w.heap.size w (wr.alloc (.cells #[.int .u8 a1] 5))) := Below.plus HBr.out _
          go_wp2_with fail
          refine h7.mono ?_
          rintro e w7 ⟨ct, rfl, hv7, hb7⟩
          have HV7 : Hid (MV w7 x7 ct) := hv7
          have HB7 : Hid (Below w.heap.size w (w7.alloc (.cells ct.toArray 38))) := Below.plus (Below.join HBs.out hb7) _
          clear h7 hv7 hb7 HBs HBr hcv
          go_wp2_with (refine stN szMg rfl ct HV7.out.len HV7.out.one rfl _ _ rfl rfl rfl ?_)
          go_ret
          exact ⟨rfl, HB7.out⟩
      · have d1 : decide ((k : Int) < (z : Int)) = false := by simp; omega
        have hcv := conv_1 a1 HWF.out.1 HWF.out.2 wr 5
        have h7 := dec_mv (s ++ tx [a1.toNat]) (wr.alloc (.cells #[.int .u8 a1] 5)) (by have := HSm.out; rw [ByteArray.size_append, Bt.tx_size]; show s.size + 1 < _; omega)
        rw [HM.out] at h7
        generalize dcM (tb (bys (s ++ tx [a1.toNat]))) = x7 at *
        have ht1 : (tx [a1.toNat]).size = 1 := Bt.tx_size _
        have hm1 : ¬ 9223372036854775807 < s.size + (tx [a1.toNat]).size := by have := HSm.out; omega
        have hm2 : ¬ 9223372036854775807 < z + (tx [a1.toNat]).size := by omega
        have hm3 : ¬ 9223372036854775807 < z + 1 := by omega
        have HBs : Hid (Below w.heap.size w (wr.alloc (.cells #[.int .u8 a1] 5))) := Below.plus HBr.out _
        go_wp2_with fail
        refine h7.mono ?_
        rintro e w7 ⟨ct, rfl, hv7, hb7⟩
        have HV7 : Hid (MV w7 x7 ct) := hv7
        have HB7 : Hid (Below w.heap.size w (w7.alloc (.cells ct.toArray 38))) := Below.plus (Below.join HBs.out hb7) _
        clear h7 hv7 hb7 HBs HBr hcv
        go_wp2_with (refine stN szMg rfl ct HV7.out.len HV7.out.one rfl _ _ rfl rfl rfl ?_)
        go_ret
        exact ⟨rfl, HB7.out⟩
  · have es : enS m0 = ⟨#[]⟩ := by unfold enS; rw [ga]; rfl
    rw [ea, es]
    clear ga ea es
    go_wp2_with fail
    go_ret
    exact ⟨rfl, HB3.out⟩
theorem own : ownKnob Try.prog.godebug = none := by kernel_rfl
theorem laidOut : laidOutB Try.prog = true := by kernel_rfl
set_option maxRecDepth 100000 in
theorem lifted (os : Os) (started : os.Started) (H : Type) (enc : TypeId × Value → H) :
    ReturnsInHanded {} Try.checked os 4 .any (Rows.wireWholeSpec.pre6 enc Try.prog Try.f4 Rows.wireWholeRow.domain false) (Rows.wireWholeSpec.post enc Try.prog Try.f4 false true false false) := by
  refine returnsInHanded_of_change_sized (C := Try.checked) own started (by kernel_rfl) Try.func4
    (ChangeSpec.witness6 (enc := enc) (C := Try.checked) false ⟨#[], #[.agg #[.int .i64 0, .int .i64 0, .slice none 0 0, .slice none 0 0, .slice none 0 0, .int .i64 0, .int .i64 0, .int .i64 0, .int .i64 0, .int .i64 0, .int .i64 0, .int .i64 0, .int .i64 0, .int .i64 0, .int .i64 0, .int .i64 0, .int .i64 0, .int .i64 0, .int .i64 0, .int .i64 0, .int .i64 0, .int .i64 0, .int .i64 0, .int .i64 0, .int .i64 0, .string ⟨#[]⟩], .int .u8 0], []⟩ 8 (by kernel_rfl) (by kernel_rfl) (by kernel_rfl) (by kernel_rfl)) ?_
  intro W base args ds gs before hval0 hW hcnd hsz0 _
  have hsz : (DataW.weightsEach Try.prog (Try.f4.params.toList ++ Rows.wireWholeSpec.plain.varTypes Try.prog) (ds ++ gs)).all (· ≤ reachBytes) = true := hsz0
  clear hsz0
  have hval : ∀ (j : Nat) t v, Try.f4.params[j]? = some t → args[j]? = some v → Value.okWide Try.prog W .any base t v := hval0
  have hW' := hW
  obtain ⟨p, q, hA0, hV, rfl, hfz, hnd⟩ := hW
  have hA : DataW.TrodAll enc Try.prog W 0 (fun _ => true) true Try.f4.params.toList args.toList ds p := hA0
  rw [Try.params4] at hA hval hsz
  obtain ⟨v0, vs0, d0, ds0, p0, q0, hargs, rfl, rfl, h0, r0⟩ := trodAll_cons hA
  obtain ⟨v1, vs1, d1, ds1, p1, q1, rfl, rfl, rfl, h1, r1⟩ := trodAll_cons r0
  obtain ⟨rfl, rfl, rfl⟩ := trodAll_nil r1
  obtain rfl : args = #[v0, v1] := by cases args; simp_all
  obtain ⟨rfl, rfl⟩ := trodVars_none hV
  have k0 := h0
  have lt0 : ∀ x ∈ p0, x.block < W.heap.size := by obtain ⟨m, hm⟩ := k0; exact DataW.trod_lt m _ _ _ hm
  obtain ⟨m0, t0, rfl, mv0⟩ := Wi.open_mv (fun parts e => by subst e; exact Wi.sized_agg hsz (j := 0) (t := 38) rfl rfl Try.underlying38) (hval 0 38 v0 rfl rfl) h0
  obtain ⟨a1, rfl, rfl, rfl, w1⟩ := open_int Try.underlying5 (hval 1 5 v1 rfl rfl) h1
  clear hA0 hval0
  refine (walk m0 t0 a1 W mv0 w1).mono fun e W' ⟨he, bel⟩ => ?_
  subst he
  exact ⟨_, rfl, _, _, _, [], _, [], hW', trodAll_mk1 (shut_bool Try.underlying4 _), (trodAll_cons_mk (Below.trod laidOut (by kernel_rfl) (of_decide_eq_true (by kernel_rfl)) k0 bel lt0) (trodAll_cons_mk (shut_int Try.underlying5 w1) trodAll_mk0)), rfl, bel.frame _, fun h => by cases h⟩
theorem over : Rows.wireWholeRow.holds Try.pinned (OpenSpec.ofChange Rows.wireWholeSpec) :=
  OpenClaim.holds_of_wide 4 Try.f4 rfl rfl rfl rfl rfl rfl rfl ⟨rfl, rfl, rfl, rfl, rfl⟩ rfl rfl rfl rfl rfl (by kernel_rfl) Try.func4 (by kernel_rfl)
    (of_decide_eq_true (by kernel_rfl)) (by unfold Func.isWrapper; first | (rw [if_pos (by decide +kernel)]; kernel_rfl) | (rw [if_neg (by decide +kernel)]; exact ⟨rfl, rfl⟩))
    (fun os started H enc _ => lifted os started H enc)
end Go.Proofs.Ytdkfifnhmfbagaa.wireWhole
namespace Go.Proofs.Ytdkfifnhmfbagaa
theorem wireWhole_holds : Rows.WireWholeSaid := wireWhole.over
#print axioms wireWhole_holds
end Go.Proofs.Ytdkfifnhmfbagaa
