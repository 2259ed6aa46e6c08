/- For every list of seats: plan.Replaced answers what the document's Replaced does, and the list stays: PlanReplaced, in its first form (the listed variable as the program's text lays it), and the card. -/
import Derived.Test.YtedbnamekfgmhaaDoorCards
import Derived.Test.YtedbnamekfgmhaaDoorTie
import Derived.Test.YtedbnamekfgmhaaDoorPlT
import Derived.Test.YtedbnamekfgmhaaDoorPlJ
import Derived.Test.YtedbnamekfgmhaaDoorRsK
import Derived.WalkKit
import Derived.ProofKit
import Derived.OpenShut
import Derived.Deep.DeepHandedRow
import Derived.Deep.DeepWitnessRowRef
import Derived.SizedLaws
namespace Go.Proofs.YtedbnamekfgmhaaDoor.planReplaced
open Go.ChangeShapes Go.WideShapes Go.ChangeAt Go.RowKit Go.Maps Go.Shelf
open Rt (Ky KyAt)
open Rs (tkn En zE rcs RdI RdS ps Tb tb_of laidWorld open_bt sized_agg roD bytesI open_sl evl)
set_option linter.unusedVariables false
set_option linter.unusedSimpArgs false

theorem vs_of {W : World} (hL : laidMetH Tryd.prog Rows.planReplacedRow.laid W) : Tb W := tb_of (show laidMet Tryd.prog Rows.planReplacedRow.laid W from hL)
theorem row_cap2 {w : World} {B n cap : Nat} {v : Option Addr} {xs : List Value} (h : w.ownsRow B 49 2 (.slice v (n + 1) cap) (n + 1) xs) : ∃ g, v = some ⟨g, 0, none⟩ ∧ n + 1 ≤ cap := by
  rcases h.2 with ⟨h0, h1⟩ | ⟨g', cap', cur, h5, h3, h4, h6, _⟩
  · cases h1
  · simp at h5
    obtain ⟨rfl, rfl⟩ := h5
    exact ⟨g', rfl, h6⟩
theorem rds_front {W : World} {b g cap n : Nat} {l : List (Int × Int)} {x y : Value} (h : W.ownsRow b 49 2 (.slice (some ⟨g, 0, none⟩) (n + 1) cap) (n + 1) (ps l ++ [x, y])) (hn : l.length = n) : RdS W (some ⟨g, 0, none⟩) l ∧ W.cell? ⟨g, n * 2, none⟩ = some x := by
  have hl := h.1
  refine ⟨fun i hi => ⟨g, rfl, ?_, ?_⟩, ?_⟩
  · rw [h.cellAt (i * 2) (by omega), List.getElem?_append_left (by rw [ps_len]; omega)]
    exact (Rs.ps_get l i hi).1
  · rw [h.cellAt (i * 2 + 1) (by omega), List.getElem?_append_left (by rw [ps_len]; omega)]
    exact (Rs.ps_get l i hi).2
  · rw [h.cellAt (n * 2) (by omega), List.getElem?_append_right (by rw [ps_len]; omega), ps_len, hn]
    simp
set_option maxRecDepth 100000 in
set_option maxHeartbeats 4000000 in
theorem walk (a : Option Addr) (c : Nat) (l : List (Int × Int)) (w : World) (rd : RdP w a l) (hl : l.length * 16 ≤ 140737488351232) (hTb : Tb w) :
    Calls Tryd.prog 4 #[.slice a l.length c] w fun e w' => e = .returned (.bool true) ∧ Below w.heap.size w w' := by
  obtain ⟨i0, hi, hz0, hz1, hz2⟩ := Rs.infoSeat_parts
  go_enter Tryd.func4, Tryd.ntmps4
  have hlv := lives_any w hTb
  go_wp2_with fail
  refine hlv.mono ?_
  rintro r w2 ⟨rfl, hb2⟩
  clear hlv
  go_upto_region 3 with (fail)
  have HE0 : Hid ((w2.alloc (.cells #[] 49)).ownsRow w2.heap.size 49 2 (.slice (some ⟨w2.heap.size, 0, none⟩) 0 0) 0 []) :=
    ⟨rfl, Or.inr ⟨w2.heap.size, 0, #[], rfl, Nat.le_refl _, heap_alloc_last w2 _, Nat.le_refl _, Nat.zero_le _, rfl, rfl⟩⟩
  have HA0 : Hid (Below w2.heap.size w2 (w2.alloc (.cells #[] 49))) := below_alloc _ _
  have HS0 : Hid (RdP (w2.alloc (.cells #[] 49)) a l) := (rd.later hb2).later HA0.out
  go_upto_region 4 with (first
    | (at_builtin; refine append_rdP rfl _ _ rfl w2.heap.size (.slice (some ⟨w2.heap.size, 0, none⟩) 0 0) 0 [] rfl HE0.out a c l rfl HS0.out (by unfold maxLen; omega) (by omega) (by simp) ?_; intro v2 wA hown2 hgrow2; rw [Nat.zero_add, List.nil_append] at hown2; obtain ⟨a2, cap2, rfl⟩ := Rs.owns_slice hown2; have HO2 : Hid (wA.ownsRow w2.heap.size 49 2 (.slice a2 l.length cap2) l.length (ps l)) := hown2; have HG2 : Hid (Below w2.heap.size w2 wA) := Rs.below_grown HA0.out (show (w2.alloc (.cells #[] 49)).grownBy wA (some w2.heap.size) from hgrow2) (by simp) (fun j hj => by cases hj; exact Nat.le_refl _); clear hown2 hgrow2)
    | (at_builtin; (refine wpList_append_own (w := _) rfl _ _ 36 rfl w2.heap.size 49 i0 (.agg #[.int .i64 0, .int .i64 0]) 2 16 Tryd.underlying36 hi hz0 hz1 hz2 rfl (by decide) (.slice a2 l.length cap2) l.length (ps l) rfl (HO2.out.alloc _) ⟨wA.heap.size, 0, none⟩ 1 1 [.int .i64 (-7), .int .i64 0] rfl rfl (Rs.cell_two_new _ _ _ _) (by simp [Value.oneCell']) (by unfold maxLen; omega) (by omega) (by have := HG2.out.size; rw [World.size_alloc]; omega) ?_); intro v3 w3 hown3 hgrow3 hq3; obtain ⟨a3, ca, rfl⟩ := Rs.owns_slice hown3; have HOA : Hid (w3.ownsRow w2.heap.size 49 2 (.slice a3 (l.length + 1) ca) (l.length + 1) (ps l ++ [.int .i64 (-7), .int .i64 0])) := hown3; have HBA : Hid (Below w2.heap.size w2 w3) := Rs.grown_bel HG2.out HO2.out (Nat.le_refl _) hgrow3; clear hown3 hgrow3))
  clear HE0 HA0 HS0 HO2 HG2
  obtain ⟨g, rfl, hcap⟩ := row_cap2 HOA.out
  obtain ⟨rS, c7⟩ := rds_front HOA.out rfl
  have HB3 : Hid (Below w.heap.size w w3) := hb2.trans (HBA.out.mono hb2.size)
  have HRS : Hid (RdS w3 (some ⟨g, 0, none⟩) l) := rS
  have HRP : Hid (RdP w3 a l) := rd.later HB3.out
  have HC7 : Hid (w3.cell? ⟨g, l.length * 2, none⟩ = some (.int .i64 (-7))) := c7
  clear HOA HBA hb2 rS c7
  obtain ⟨n, hn⟩ : ∃ n, l.length = n := ⟨_, rfl⟩
  have k1 : n ≤ ca := by omega
  have k2 : (n : Int) ≤ (ca : Int) := by omega
  have k3 : (0 : Int) ≤ (n : Int) := by omega
  have hrp := replaced_any (some ⟨g, 0, none⟩) ca l w3 (by omega) HRS.out
  have hrr := fun W (hW : Below w3.heap.size w3 W) => rRepl_any a c l W hl (HRP.out.later hW)
  have hsm := fun W (hW : Below w3.heap.size w3 W) => sameP_any (some ⟨g, 0, none⟩) a ca c l W (by omega) (HRS.out.later hW) (HRP.out.later hW)
  have n1 : (n : Int) < ((n : Int) + 1) := by omega
  rw [hn] at hrp hrr hsm HC7 ⊢
  clear hn hl rd hcap
  go_wp2_with fail
  refine hrp.mono ?_
  rintro r w4 ⟨rfl, hb4⟩
  clear hrp
  go_wp2_with fail
  refine (hrr _ hb4).mono ?_
  rintro r w5 ⟨rfl, hb5⟩
  have hb35 := hb4.trans (hb5.mono hb4.size)
  clear hrr
  go_wp2_with fail
  refine (hsm _ hb35).mono ?_
  rintro r w6 ⟨rfl, hb6⟩
  have HB6 : Hid (Below w3.heap.size w3 w6) := hb35.trans (hb6.mono hb35.size)
  have c7 := Rs.cell_later HB6.out HC7.out
  clear hsm hb35 hb4 hb5 hb6
  go_wp2_with fail
  go_ret
  exact ⟨rfl, HB3.out.trans (HB6.out.mono HB3.out.size)⟩
theorem own : ownKnob Tryd.prog.godebug = none := by kernel_rfl
theorem laidOut : laidOutB Tryd.prog = true := by kernel_rfl
set_option maxRecDepth 20000 in
theorem contract (H : Type) (enc : TypeId × Value → H) (W : World) (base : Nat) (args : Array Value) (ds gs : List (DataW H)) (before : List MemPlace)
    (hval : ∀ (j : Nat) t v, Tryd.f4.params[j]? = some t → args[j]? = some v → Value.okWide Tryd.prog W .any base t v)
    (hW : DataW.Whole enc Tryd.prog Tryd.f4.params.toList Rows.planReplacedSpec.vars false W args.toList ds gs before)
    (hsz : (DataW.weightsEach Tryd.prog (Tryd.f4.params.toList ++ Rows.planReplacedSpec.plain.varTypes Tryd.prog) (ds ++ gs)).all (· ≤ reachBytes) = true)
    (hL : laidMetH Tryd.prog Rows.planReplacedRow.laid W) :
    Calls Tryd.prog 4 args W fun e W' => ∃ v, e = .returned v ∧ Rows.planReplacedSpec.post enc Tryd.prog Tryd.f4 false true false false W args v W' := by
  have hv := vs_of hL
  have hW' := hW
  obtain ⟨p, q, hA0, hV, rfl, hfz, hnd⟩ := hW
  have hA : DataW.TrodAll enc Tryd.prog W 0 (fun _ => true) true Tryd.f4.params.toList args.toList ds p := hA0
  rw [Tryd.params4] at hA hval hsz
  obtain ⟨v0, vs0, d0, ds0, p0, q0, hargs, rfl, rfl, h0, r0⟩ := trodAll_cons hA
  obtain ⟨rfl, rfl, rfl⟩ := trodAll_nil r0
  obtain rfl : args = #[v0] := by cases args; simp_all
  obtain ⟨rfl, rfl⟩ := trodVars_none hV
  have k0 := h0
  have lt0 : ∀ x ∈ p0, x.block < W.heap.size := by obtain ⟨m, hm⟩ := k0; exact DataW.trod_lt m _ _ _ hm
  obtain ⟨a0, c0, l0, rfl, rd0, hl0⟩ := seats_of (fun es sp e => by subst e; have h := sized_slice hsz (j := 0) (t := 36) (e := 49) rfl rfl Tryd.underlying36; rw [bytesSeat] at h; exact h) (okWide_slice Tryd.underlying36 (hval 0 36 v0 rfl rfl)) h0
  clear hA0
  refine (walk a0 c0 l0 W rd0 hl0 hv).mono fun e W' ⟨he, bel⟩ => ?_
  subst he
  exact ⟨_, rfl, _, _, _, [], _, [], hW', trodAll_mk1 (shut_bool Tryd.underlying4 _), (trodAll_cons_mk (Below.trod laidOut (by kernel_rfl) (of_decide_eq_true (by kernel_rfl)) k0 bel lt0) trodAll_mk0), rfl, bel.frame _, fun h => by cases h⟩
set_option maxRecDepth 100000 in
theorem laid_met (os : Os) : laidMet Tryd.prog Rows.planReplacedRow.laid ((laidWorld os).forCall (fun _ _ => 0) ⟨#[], #[.slice none 0 0], []⟩).memory :=
  laidMet_of_run' 8 (by kernel_rfl) (by kernel_rfl)
set_option maxRecDepth 100000 in
theorem reads (os : Os) {H : Type} (enc : TypeId × Value → H) : ∃ places, DataW.whole enc Tryd.prog ((laidWorld os).forCall (fun _ _ => 0) ⟨#[], #[.slice none 0 0], []⟩).memory Tryd.f4.params.toList Rows.planReplacedSpec.vars false (#[.slice none 0 0] : Array Value).toList 8 = some ([.nil], [], places) :=
  ⟨[], by kernel_rfl⟩
set_option maxRecDepth 100000 in
theorem lifted (os : Os) (started : os.Started) (H : Type) (enc : TypeId × Value → H) (F : Stop.Interp) :
    ReturnsInHanded {} Tryd.checked os 4 .any ((OpenSpec.ofChange Rows.planReplacedSpec).preRow enc Tryd.prog Tryd.f4 Rows.planReplacedRow.domain false Rows.planReplacedRow.laid) (((OpenSpec.ofChange Rows.planReplacedSpec).at F).post enc Tryd.prog Tryd.f4 false true false false) := by
  obtain ⟨places, hx⟩ := reads os enc
  refine returnsInHanded_of_row (C := Tryd.checked) (s := (OpenSpec.ofChange Rows.planReplacedSpec)) own started (by kernel_rfl) Tryd.func4
    (witness_row_at (enc := enc) (C := Tryd.checked) false (laidWorld os) #[.slice none 0 0] rfl (by kernel_rfl) (by kernel_rfl) (by kernel_rfl)
      (OpenSpec.preRow_of_cond 8 hx (by kernel_rfl) (fun k hk => by cases hk) (by kernel_rfl) (laid_met os))) ?_
  intro W base args ds gs before hval hW hc1 hc2 hsz hL hsh _
  exact contract H enc W base args ds gs before hval hW hsz hL
theorem said : Rows.PlanReplacedSaid :=
  OpenClaim.holds_of_cond 4 Tryd.f4 rfl rfl rfl rfl rfl rfl rfl ⟨rfl, rfl, rfl, rfl, rfl⟩ rfl rfl rfl rfl rfl (by kernel_rfl) Tryd.func4 (by kernel_rfl)
    (of_decide_eq_true (by kernel_rfl)) (by unfold Func.isWrapper; first | (rw [if_pos (by decide +kernel)]; kernel_rfl) | (rw [if_neg (by decide +kernel)]; exact ⟨rfl, rfl⟩))
    (fun os started H enc _ F => by rw [OpenClaim.pre_eq_preRow]; exact lifted os started H enc F)
theorem plain (f : FuncId) (fn : Func) (hf : Tryd.pinned.checked.prog.funcNamed "coterie/coterielaw12.PlanReplaced" = some f) (hfn : Tryd.pinned.checked.prog.funcs[f]? = some fn) :
    false = Tryd.pinned.checked.prog.looks [] ∧ ∀ (j : Nat) t, fn.params[j]? = some t → Tryd.pinned.checked.prog.wantsStandIn t = false := by
  obtain rfl : f = 4 := Option.some.inj ((show Tryd.prog.funcNamed "coterie/coterielaw12.PlanReplaced" = some 4 by kernel_rfl).symm.trans hf) |>.symm
  obtain rfl : fn = Tryd.f4 := (Option.some.inj (Tryd.func4.symm.trans hfn)).symm
  refine ⟨by kernel_rfl, fun j t ht => ?_⟩
  rw [Tryd.params4] at ht
  have h36 : Tryd.prog.wantsStandIn 36 = false := by kernel_rfl
  have hm := Array.mem_of_getElem? ht
  simp at hm
  subst hm
  exact h36
end Go.Proofs.YtedbnamekfgmhaaDoor.planReplaced
namespace Go.Proofs.YtedbnamekfgmhaaDoor
theorem planReplaced_holds : Rows.PlanReplacedCardSaid :=
  Claim7.holds_tied_plain_at .later [] _ _ _ _ planReplaced.said (fun _ h => by cases h) (by kernel_rfl) (fun _ h => by cases h) planReplaced_row_tie rfl ⟨rfl, rfl⟩ (by kernel_rfl) rfl planReplaced.plain (by kernel_rfl)
#print axioms planReplaced_holds
end Go.Proofs.YtedbnamekfgmhaaDoor
