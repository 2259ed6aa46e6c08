/- For every row of batches: each rekey message of its steps is written and comes back unchanged, its number is the step's, and it has at most twelve items for each who leaves or joins: TopWireRow, in its first form (the listed variable as the program's text lays it), and the card. -/
import Derived.Test.YtdkfifnhmfbagaaGreatDoorCards
import Derived.Test.YtdkfifnhmfbagaaGreatDoorTie
import Derived.Test.YtdkfifnhmfbagaaGreatDoorPwJ
import Derived.Test.YtdkfifnhmfbagaaGreatDoorRsJ5
import Derived.Test.YtdkfifnhmfbagaaGreatDoorOpenBtw
import Derived.WalkKit
import Derived.ProofKit
import Derived.OpenShut
import Derived.Deep.DeepHandedRow
import Derived.Deep.DeepWitnessRowRef
import Derived.SizedLaws
namespace Go.Proofs.YtdkfifnhmfbagaaGreatDoor.topWireRow
open Go.ChangeShapes Go.WideShapes Go.ChangeAt Go.RowKit Go.Maps Go.Shelf
open Rs (RdI Tb tb_of laidWorld sized_agg bytesI owns_slice)
open Wi (MV MB Msg mR mgl enS dcE dcM dec_mv sameT ldM stN szMg szMv dc_back en_small)
open Bt (tb bys)
set_option linter.unusedVariables false
set_option linter.unusedSimpArgs false
theorem vs_of {W : World} (hL : laidMetH Tryz.prog Rows.topWireRowRow.laid W) : Tb W := tb_of (show laidMet Tryz.prog Rows.topWireRowRow.laid W from hL)
theorem rd_tr {W : World} {E : Nat} {p : Int} {v1 v2 v3 : Value} (h : RkAt W E #[.int .i64 p, v1, v2, v3]) : W.rangeAt E 0 [.int .i64 p, v1, v2, v3] := Wi.ra_of h 0 _ (by simp)
set_option maxRecDepth 100000 in
set_option maxHeartbeats 4000000 in
theorem walk (a0 : Option Addr) (c0 : Nat) (l0 : List (List Int × List Int)) (w : World) (rd0 : RdB w a0 l0) (hl0 : l0.length * 48 ≤ 140737488351232) (hb0 : ∀ i, i < l0.length → (l0.getD i ([], [])).1.length * 8 ≤ 140737488351232 ∧ (l0.getD i ([], [])).2.length * 8 ≤ 140737488351232) (hv : Tb w) :
  Calls Tryz.prog 3 #[.slice a0 l0.length c0] w fun e w' => e = .returned (.bool true) ∧ Below w.heap.size w w' := by
 have hli := lives12_any w hv
 go_enter Tryz.func3, Tryz.ntmps3
 go_wp2_with fail
 refine hli.mono ?_
 rintro r w1 ⟨rfl, hb1⟩
 have hst := steps_any a0 c0 l0 w1 (hv.later hb1) (by omega) (fun i hi => by have := hb0 i hi; omega) (rd0.later hb1)
 have HB1 : Hid (Below w.heap.size w w1) := hb1
 clear hli hb1 rd0 hl0 hb0
 go_wp2_with fail
 refine hst.mono ?_
 rintro e w2 ⟨vr, vs, ms, rfl, hss⟩
 have hrow := runS_row l0
 obtain ⟨st, hst2⟩ : ∃ s, runS l0 = s := ⟨_, rfl⟩
 rw [hst2] at hss hrow
 obtain ⟨ts, bs⟩ := st
 dsimp only at hss hrow
 have HROW : Hid (RowB ts bs) := hrow
 have hle := hrow.le
 have hlen := hrow.len
 have hml := hss.ml
 clear hst hst2 hrow
 obtain ⟨ar, cr, rfl⟩ := owns_slice hss.rr
 obtain ⟨ax, cs, rfl⟩ := owns_slice hss.rs
 obtain ⟨NT, hNT⟩ : ∃ x, ts.length = x := ⟨_, rfl⟩
 obtain ⟨NM, hNM⟩ : ∃ x, ms.length = x := ⟨_, rfl⟩
 have HNM : Hid (ms.length = NM ∧ NM = bs.length) := ⟨hNM, by omega⟩
 have HS0 : Hid (SS w1 w2 (.slice ar ts.length cr) (.slice ax ms.length cs) ts bs ms) := hss
 have hN2 : NM ≤ 200 := by omega
 have hN3 : IntKind.i64.wrap ((NM : Int) + 1) = (NT : Int) := by rw [show (NM : Int) + 1 = (NT : Int) by omega]; exact Rs.i64_fit _ (by omega) (by omega)
 have hN4 : ((NT : Int) == (NT : Int)) = true := by simp
 rw [hNT, hNM]
 clear hss hNT hNM hle hlen hml
 go_wp2_with fail
 clear hN3 hN4
 go_loopw [32] (fun i wx => ∃ (k : Nat), k ≤ NM ∧ i = .int .i64 (k : Int) ∧ SS w1 wx (.slice ar ts.length cr) (.slice ax ms.length cs) ts bs ms) (fun i _ => NM - (intOf i).toNat)
 case atStart => exact ⟨0, by omega, rfl, HS0.out⟩
 case round =>
  obtain ⟨k, hk, rfl, hss⟩ := hrel
  have HS : Hid (SS w1 wr (.slice ar ts.length cr) (.slice ax ms.length cs) ts bs ms) := hss
  clear hss HS0
  by_cases hkN : k < NM
  ·have i1 : (0 : Int) ≤ (k : Int) := by omega
   have i2 : (k : Int) < (NM : Int) := by omega
   obtain ⟨g, a1, a2, a3, k1, k2, k3, eg, x0, x1, x2, x3, hr3⟩ := HS.out.msg (i := k) (by rw [HNM.out.1]; exact hkN)
   have hkb : k < bs.length := by have := HNM.out.2; omega
   have HST := HROW.out.stp k hkb
   have hg : Wi.gR (rW (mB ts bs k)) = true := step_good HST.1
   have hcost : (mB ts bs k).2.2.2.length ≤ 12 * ((mB ts bs k).2.1.length + (mB ts bs k).2.2.1.length) := step_cost _ _ _
   have hep : (mB ts bs k).1 = (k : Int) + 1 := by
    show (ts.getD k (tz 0)).ep + 1 = _
    rw [HROW.out.ep k (by omega)]
   have HL64 : Hid ((mB ts bs k).2.1.length ≤ 64 ∧ (mB ts bs k).2.2.1.length ≤ 64) := by
    have h := hg
    simp only [Wi.gR, Bool.and_eq_true, decide_eq_true_eq] at h
    exact ⟨h.2.1.1, h.2.2.1.1⟩
   have HMV : Hid (MV wr (mR (rW (mB ts bs k))) (mgl (mR (rW (mB ts bs k))) (.slice a1 (mB ts bs k).2.1.length k1) (.slice a2 (mB ts bs k).2.2.1.length k2) (.slice a3 (mB ts bs k).2.2.2.length k3))) := hr3.mv hg
   have HGM : Hid (Wi.gM (mR (rW (mB ts bs k))) = true) := gM_R hg
   obtain ⟨n1, hn1⟩ : ∃ n, (mB ts bs k).2.1.length = n := ⟨_, rfl⟩
   obtain ⟨n2, hn2⟩ : ∃ n, (mB ts bs k).2.2.1.length = n := ⟨_, rfl⟩
   obtain ⟨n3, hn3⟩ : ∃ n, (mB ts bs k).2.2.2.length = n := ⟨_, rfl⟩
   have hrp : (rW (mB ts bs k)).1 = (k : Int) + 1 := hep
   rw [hep] at x0
   rw [hn1] at x1 HMV hcost HL64
   rw [hn2] at x2 HMV hcost HL64
   rw [hn3] at x3 HMV hcost
   obtain ⟨r, hr⟩ : ∃ r, rW (mB ts bs k) = r := ⟨_, rfl⟩
   rw [hr] at HMV HGM hrp
   obtain ⟨p, hp⟩ : ∃ p : Int, (k : Int) + 1 = p := ⟨_, rfl⟩
   rw [hp] at x0 hrp
   have hwp : IntKind.i64.wrap ((k : Int) + 1) = p := by rw [hp]; exact Rs.i64_fit _ (by omega) (by omega)
   have HPP : Hid ((k : Int) + 1 = p) := hp
   have hpp : (p == p) = true := by simp
   have hs0 := HL64.out
   obtain ⟨s12, hs12⟩ : ∃ s : Nat, n1 + n2 = s := ⟨_, rfl⟩
   obtain ⟨q12, hq12⟩ : ∃ s : Nat, 12 * s12 = s := ⟨_, rfl⟩
   have ws1 : IntKind.i64.wrap ((n1 : Int) + (n2 : Int)) = (s12 : Int) := by rw [show (n1 : Int) + (n2 : Int) = (s12 : Int) by omega]; exact Rs.i64_fit _ (by omega) (by omega)
   have ws2 : IntKind.i64.wrap (12 * (s12 : Int)) = (q12 : Int) := by rw [show 12 * (s12 : Int) = (q12 : Int) by omega]; exact Rs.i64_fit _ (by omega) (by omega)
   have ws3 : decide ((q12 : Int) < (n3 : Int)) = false := by simp; omega
   have ws4 : ¬ (q12 : Int) < (n3 : Int) := by omega
   clear hep hg hn1 hn2 hn3 hr hr3 HST hcost hs0 hs12 hq12 hp
   obtain ⟨ct, hct⟩ : ∃ c, mgl (mR r) (.slice a1 n1 k1) (.slice a2 n2 k2) (.slice a3 n3 k3) = c := ⟨_, rfl⟩
   have HCT : Hid (mgl (mR r) (.slice a1 n1 k1) (.slice a2 n2 k2) (.slice a3 n3 k3) = ct) := hct
   have HLIT : Hid (ct.toArray = #[.int .i64 1, .int .i64 p, .slice a1 n1 k1, .slice a2 n2 k2, .slice a3 n3 k3, .int .i64 0, .int .i64 0, .int .i64 0, .int .i64 0, .int .i64 0, .int .i64 0, .int .i64 0, .int .i64 0, .int .i64 0, .int .i64 0, .int .i64 0, .int .i64 0, .int .i64 0, .int .i64 0, .int .i64 0, .int .i64 0, .int .i64 0, .int .i64 0, .int .i64 0, .int .i64 0, .string ⟨#[]⟩]) := by
    unfold Hid
    rw [← hct, ← hrp]
    rfl
   rw [hct] at HMV
   clear hct hrp HCT
   subst eg
   have HS1 : Hid (SS w1 (wr.alloc (.cells #[.int .i64 p, .slice a1 n1 k1, .slice a2 n2 k2, .slice a3 n3 k3] 31)) (.slice ar ts.length cr) (.slice (some ⟨g, 0, none⟩) ms.length cs) ts bs ms) := HS.out.later (below_alloc _ _)
   have HMV1 : Hid (MV (wr.alloc (.cells #[.int .i64 p, .slice a1 n1 k1, .slice a2 n2 k2, .slice a3 n3 k3] 31)) (mR r) ct) := HMV.out.later (below_alloc _ _)
   have HRK : Hid (RkAt (wr.alloc (.cells #[.int .i64 p, .slice a1 n1 k1, .slice a2 n2 k2, .slice a3 n3 k3] 31)) wr.heap.size #[.int .i64 p, .slice a1 n1 k1, .slice a2 n2 k2, .slice a3 n3 k3]) := heap_alloc_last wr _
   clear HS HMV
   go_upto_region 9 with (fail)
   clear x0 x1 x2 x3
   generalize wr.alloc (.cells #[.int .i64 p, .slice a1 n1 k1, .slice a2 n2 k2, .slice a3 n3 k3] 31) = w5 at *
   generalize wr.heap.size = E at *
   obtain ⟨y0, y1, y2, y3⟩ := RkAt.cells HRK.out
   have h6 := HMV1.out.enc
   have HBK : Hid (dcE (tb (bys (enS (mR r)))) = 0 ∧ dcM (tb (bys (enS (mR r)))) = mR r) := dc_back HGM.out
   have HSM : Hid ((enS (mR r)).size ≤ 131073) := en_small _
   have he0 : Wi.enE (mR r) = 0 := by unfold Wi.enE; rw [HGM.out]; rfl
   rw [he0, HLIT.out] at h6
   generalize enS (mR r) = s at *
   clear he0
   go_wp2_with fail
   refine Calls.mono (by exact h6) ?_
   rintro e w6 ⟨rfl, hb6⟩
   have HS6 : Hid (SS w1 w6 (.slice ar ts.length cr) (.slice (some ⟨g, 0, none⟩) ms.length cs) ts bs ms) := HS1.out.later hb6
   have HMV6 : Hid (MV w6 (mR r) ct) := HMV1.out.later hb6
   have HRK6 : Hid (RkAt w6 E #[.int .i64 p, .slice a1 n1 k1, .slice a2 n2 k2, .slice a3 n3 k3]) := RkAt.later HRK.out hb6
   clear h6 hb6 HS1 HMV1 HRK y0 y1 y2 y3
   have h7 := dec_mv s w6 (by have := HSM.out; omega)
   rw [HBK.out.1, HBK.out.2] at h7
   go_wp2_with fail
   refine h7.mono ?_
   rintro e w7 ⟨dt, rfl, hv7, hb7⟩
   have HS7 : Hid (SS w1 w7 (.slice ar ts.length cr) (.slice (some ⟨g, 0, none⟩) ms.length cs) ts bs ms) := HS6.out.later hb7
   have HMV7 : Hid (MV w7 (mR r) ct) := HMV6.out.later hb7
   have HRK7 : Hid (RkAt w7 E #[.int .i64 p, .slice a1 n1 k1, .slice a2 n2 k2, .slice a3 n3 k3]) := RkAt.later HRK6.out hb7
   have HV7 : Hid (MV w7 (mR r) dt) := hv7
   clear h7 hb7 hv7 HS6 HMV6 HRK6 HBK
   go_upto_region 11 with (refine stN szMg rfl dt HV7.out.len HV7.out.one rfl _ _ rfl rfl rfl ?_)
   have HX8 : Hid (MB (w7.alloc (.cells dt.toArray 47)) w7.heap.size dt) := MB.new w7 dt
   have HS8 : Hid (SS w1 (w7.alloc (.cells dt.toArray 47)) (.slice ar ts.length cr) (.slice (some ⟨g, 0, none⟩) ms.length cs) ts bs ms) := HS7.out.later (below_alloc _ _)
   have HMV8 : Hid (MV (w7.alloc (.cells dt.toArray 47)) (mR r) ct) := HMV7.out.later (below_alloc _ _)
   have HRK8 : Hid (RkAt (w7.alloc (.cells dt.toArray 47)) E #[.int .i64 p, .slice a1 n1 k1, .slice a2 n2 k2, .slice a3 n3 k3]) := RkAt.later HRK7.out (below_alloc _ _)
   have HV8 : Hid (MV (w7.alloc (.cells dt.toArray 47)) (mR r) dt) := HV7.out.later (below_alloc _ _)
   clear HS7 HMV7 HRK7 HV7
   generalize w7.alloc (.cells dt.toArray 47) = w8 at *
   generalize w7.heap.size = X at *
   have HSx : Hid _ := szMv HV8.out
   have HRX : Hid (w8.rangeAt X 0 dt) := HX8.out.all
   obtain ⟨y0, y1, y2, y3⟩ := RkAt.cells HRK8.out
   have h9 := sameT HV8.out HMV8.out rfl
   rw [HLIT.out] at h9
   clear HX8 HV8 HMV8
   go_wp2_with (refine ldM HRX.out Tryz.underlying47 rfl HSx.out _ rfl rfl rfl ?_)
   refine Calls.mono (by exact h9) ?_
   rintro e w9 ⟨rfl, hb9⟩
   have HS9 : Hid (SS w1 w9 (.slice ar ts.length cr) (.slice (some ⟨g, 0, none⟩) ms.length cs) ts bs ms) := HS8.out.later hb9
   have hrk9 := RkAt.later HRK8.out hb9
   clear h9 hb9 HS8 HRK8 y0 y1 y2 y3 HRX
   obtain ⟨y0, y1, y2, y3⟩ := RkAt.cells hrk9
   clear hrk9
   have hk200 : k < 200 := by omega
   go_wp2_with fail
   go_roundw
   case rel => exact ⟨k + 1, by omega, by rw [show p = ((k + 1 : Nat) : Int) by have := HPP.out; omega], HS9.out⟩
   case measure =>
    have hpk := HPP.out
    simp [intOf]
    omega
  ·obtain rfl : k = NM := by omega
   have hdk : decide ((k : Int) < (k : Int)) = false := by simp
   have HBE : Hid (Below w.heap.size w wr) := HB1.out.trans (HS.out.bel.mono HB1.out.size)
   clear HS
   go_wp2_with fail
   go_ret
   exact ⟨rfl, HBE.out⟩
theorem own : ownKnob Tryz.prog.godebug = none := by kernel_rfl
theorem laidOut : laidOutB Tryz.prog = true := by kernel_rfl
set_option maxRecDepth 20000 in
theorem contract (H : Type) (enc : TypeId × Value → H) (W : World) (base : Nat) (args : Array Value) (ds gs : List (DataW H)) (before : List MemPlace)
  (hval : ∀ (j : Nat) t v, Tryz.f3.params[j]? = some t → args[j]? = some v → Value.okWide Tryz.prog W .any base t v)
  (hW : DataW.Whole enc Tryz.prog Tryz.f3.params.toList Rows.topWireRowSpec.vars false W args.toList ds gs before)
  (hsz : (DataW.weightsEach Tryz.prog (Tryz.f3.params.toList ++ Rows.topWireRowSpec.plain.varTypes Tryz.prog) (ds ++ gs)).all (· ≤ reachBytes) = true)
  (hL : laidMetH Tryz.prog Rows.topWireRowRow.laid W) :
  Calls Tryz.prog 3 args W fun e W' => ∃ v, e = .returned v ∧ Rows.topWireRowSpec.post enc Tryz.prog Tryz.f3 false true false false W args v W' := by
 have hv := vs_of hL
 have hW' := hW
 obtain ⟨p, q, hA0, hV, rfl, hfz, hnd⟩ := hW
 have hA : DataW.TrodAll enc Tryz.prog W 0 (fun _ => true) true Tryz.f3.params.toList args.toList ds p := hA0
 rw [Tryz.params3] at hA hval hsz
 obtain ⟨v0, vs0, d0, ds0, p0, q0, hargs, rfl, rfl, h0, r0⟩ := trodAll_cons hA
 obtain ⟨rfl, rfl, rfl⟩ := trodAll_nil r0
 obtain rfl : args = #[v0] := by cases args; simp_all
 obtain ⟨rfl, rfl⟩ := trodVars_none hV
 have k0 := h0
 have lt0 : ∀ x ∈ p0, x.block < W.heap.size := by obtain ⟨m, hm⟩ := k0; exact DataW.trod_lt m _ _ _ hm
 obtain ⟨a0, c0, l0, rfl, rd0, hl0, hb0⟩ := bts_of1 (fun es sp e => by subst e; exact ⟨by have h := sized_slice hsz (j := 0) (t := 22) (e := 54) rfl rfl Tryz.underlying22; rw [bytesBt] at h; exact h, fun parts hm => sized_elems hsz (j := 0) (t := 22) (e := 54) rfl rfl Tryz.underlying22 Tryz.underlying54 hm⟩) (okWide_slice Tryz.underlying22 (hval 0 22 v0 rfl rfl)) h0
 clear hA0
 refine (walk a0 c0 l0 W rd0 hl0 hb0 hv).mono fun e W' ⟨he, bel⟩ => ?_
 subst he
 exact ⟨_, rfl, _, _, _, [], _, [], hW', trodAll_mk1 (shut_bool Tryz.underlying4 _), (trodAll_cons_mk (Below.trod laidOut (by kernel_rfl) (of_decide_eq_true (by kernel_rfl)) k0 bel lt0) trodAll_mk0), rfl, bel.frame _, fun h => by cases h⟩
set_option maxRecDepth 100000 in
theorem laid_met (os : Os) : laidMet Tryz.prog Rows.topWireRowRow.laid ((laidWorld os).forCall (fun _ _ => 0) ⟨#[], #[.slice none 0 0], []⟩).memory :=
 laidMet_of_run' 8 (by kernel_rfl) (by kernel_rfl)
set_option maxRecDepth 100000 in
theorem reads (os : Os) {H : Type} (enc : TypeId × Value → H) : ∃ places, DataW.whole enc Tryz.prog ((laidWorld os).forCall (fun _ _ => 0) ⟨#[], #[.slice none 0 0], []⟩).memory Tryz.f3.params.toList Rows.topWireRowSpec.vars false (#[.slice none 0 0] : Array Value).toList 8 = some ([.nil], [], places) :=
 ⟨[], by kernel_rfl⟩
set_option maxRecDepth 100000 in
theorem lifted (os : Os) (started : os.Started) (H : Type) (enc : TypeId × Value → H) (F : Stop.Interp) :
  ReturnsInHanded {} Tryz.checked os 3 .any ((OpenSpec.ofChange Rows.topWireRowSpec).preRow enc Tryz.prog Tryz.f3 Rows.topWireRowRow.domain false Rows.topWireRowRow.laid) (((OpenSpec.ofChange Rows.topWireRowSpec).at F).post enc Tryz.prog Tryz.f3 false true false false) := by
 obtain ⟨places, hx⟩ := reads os enc
 refine returnsInHanded_of_row (C := Tryz.checked) (s := (OpenSpec.ofChange Rows.topWireRowSpec)) own started (by kernel_rfl) Tryz.func3
  (witness_row_at (enc := enc) (C := Tryz.checked) false (laidWorld os) #[.slice none 0 0] rfl (by kernel_rfl) (by kernel_rfl) (by kernel_rfl)
   (OpenSpec.preRow_of_cond 8 hx (by kernel_rfl) (fun k hk => by cases hk) (by kernel_rfl) (laid_met os))) ?_
 intro W base args ds gs before hval hW hc1 hc2 hsz hL hsh _
 exact contract H enc W base args ds gs before hval hW hsz hL
theorem said : Rows.TopWireRowSaid :=
 OpenClaim.holds_of_cond 3 Tryz.f3 rfl rfl rfl rfl rfl rfl rfl ⟨rfl, rfl, rfl, rfl, rfl⟩ rfl rfl rfl rfl rfl (by kernel_rfl) Tryz.func3 (by kernel_rfl)
  (of_decide_eq_true (by kernel_rfl)) (by unfold Func.isWrapper; first | (rw [if_pos (by decide +kernel)]; kernel_rfl) | (rw [if_neg (by decide +kernel)]; exact ⟨rfl, rfl⟩))
  (fun os started H enc _ F => by rw [OpenClaim.pre_eq_preRow]; exact lifted os started H enc F)
theorem plain (f : FuncId) (fn : Func) (hf : Tryz.pinned.checked.prog.funcNamed "coterie/coterietop.TopWireRow" = some f) (hfn : Tryz.pinned.checked.prog.funcs[f]? = some fn) :
  false = Tryz.pinned.checked.prog.looks [] ∧ ∀ (j : Nat) t, fn.params[j]? = some t → Tryz.pinned.checked.prog.wantsStandIn t = false := by
 obtain rfl : f = 3 := Option.some.inj ((show Tryz.prog.funcNamed "coterie/coterietop.TopWireRow" = some 3 by kernel_rfl).symm.trans hf) |>.symm
 obtain rfl : fn = Tryz.f3 := (Option.some.inj (Tryz.func3.symm.trans hfn)).symm
 refine ⟨by kernel_rfl, fun j t ht => ?_⟩
 rw [Tryz.params3] at ht
 have h22 : Tryz.prog.wantsStandIn 22 = false := by kernel_rfl
 have hm := Array.mem_of_getElem? ht
 simp at hm
 subst hm
 exact h22
end Go.Proofs.YtdkfifnhmfbagaaGreatDoor.topWireRow
namespace Go.Proofs.YtdkfifnhmfbagaaGreatDoor
theorem topWireRow_holds : Rows.TopWireRowCardSaid :=
 Claim7.holds_tied_plain_at .later [] _ _ _ _ topWireRow.said (fun _ h => by cases h) (by kernel_rfl) (fun _ h => by cases h) topWireRow_row_tie rfl ⟨rfl, rfl⟩ (by kernel_rfl) rfl topWireRow.plain (by kernel_rfl)
#print axioms topWireRow_holds
end Go.Proofs.YtdkfifnhmfbagaaGreatDoor
