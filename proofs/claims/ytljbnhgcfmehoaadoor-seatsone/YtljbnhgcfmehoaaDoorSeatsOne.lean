/- For every word and any two numbers: Put and Drop of package seats change just their slot, and refuse what is no slot: SeatsOne, in its first form (the listed variables as the program's text lays them), and the card. -/
import Derived.Test.YtljbnhgcfmehoaaDoorCards
import Derived.Test.YtljbnhgcfmehoaaDoorTie
import Derived.Test.YtljbnhgcfmehoaaDoorStV
import Derived.WalkKit
import Derived.ProofKit
import Derived.OpenShut
import Derived.Deep.DeepHandedRow
import Derived.Deep.DeepWitnessRowRef
import Derived.SizedLaws
namespace Go.Proofs.YtljbnhgcfmehoaaDoor.seatsOne
open Go.ChangeShapes Go.WideShapes Go.ChangeAt Go.RowKit Go.Maps Go.Shelf
set_option linter.unusedVariables false
set_option linter.unusedSimpArgs false

theorem vs_of {W : World} (hL : laidMetH Tryd.prog Rows.seatsOneRow.laid W) : Tb W := tb_of (show laidMet Tryd.prog Rows.seatsOneRow.laid W from hL)
theorem put_has {s k : Nat} (hk : k < 64) : hs (put s k) (k : Int) = true := by rw [hs_sl hk, put_bit]; simp
theorem drp_has {s k : Nat} (hk : k < 64) : hs (drp s k) (k : Int) = false := by rw [hs_sl hk, drp_bit hk hk]; simp
theorem put_other {s k : Nat} {o : Int} (hk : k < 64) (h : o ≠ (k : Int)) : hs (put s k) o = hs s o := by
  cases ho : sl o with
  | false => rw [hs_no ho, hs_no ho]
  | true =>
    obtain ⟨j, rfl, hj⟩ := sl_nat ho
    rw [hs_sl hj, hs_sl hj, put_bit, show decide (k = j) = false by simp; omega, Bool.false_or]
theorem drp_other {s k : Nat} {o : Int} (hk : k < 64) (h : o ≠ (k : Int)) : hs (drp s k) o = hs s o := by
  cases ho : sl o with
  | false => rw [hs_no ho, hs_no ho]
  | true =>
    obtain ⟨j, rfl, hj⟩ := sl_nat ho
    rw [hs_sl hj, hs_sl hj, drp_bit hk hj, show decide (k = j) = false by simp; omega, Bool.not_false, Bool.true_and]
set_option maxRecDepth 100000 in
set_option maxHeartbeats 2000000 in
theorem walk (a0 n o : Int) (w0 : (Lit.int .u64 a0).wf = true) (w1 : (Lit.int .i64 n).wf = true) (w2 : (Lit.int .i64 o).wf = true) (w : World) (hT : Tb w) :
    Calls Tryd.prog 4 #[.int .u64 a0, .int .i64 n, .int .i64 o] w fun e w' => e = .returned (.bool true) ∧ Below w.heap.size w w' := by
  obtain ⟨s, rfl, hs⟩ := u64_wf w0
  obtain ⟨hn0, hn1⟩ := i64_wf w1
  clear w0 w1 w2
  have c1 := lives_any w hT
  have c2 := put_any s hs n
  have c4 := drop_any s hs n
  cases hsl : sl n with
  | false =>
    rw [putR_no hsl] at c2
    rw [drpR_no hsl] at c4
    rcases sl_not hsl with hneg | hbig
    · go_enter Tryd.func4, Tryd.ntmps4
      go_wp2_with fail
      refine c1.mono ?_
      rintro e w2 ⟨rfl, hb⟩
      clear c1
      go_wp2_with fail
      refine (c2 _).mono ?_
      rintro e w3 ⟨rfl, rfl⟩
      go_wp2_with fail
      refine (c4 _).mono ?_
      rintro e w5 ⟨rfl, rfl⟩
      clear c2 c4
      go_wp2_with fail
      go_ret
      exact ⟨rfl, hb⟩
    · have hneg : ¬ n < 0 := by omega
      go_enter Tryd.func4, Tryd.ntmps4
      go_wp2_with fail
      refine c1.mono ?_
      rintro e w2 ⟨rfl, hb⟩
      clear c1
      go_wp2_with fail
      refine (c2 _).mono ?_
      rintro e w3 ⟨rfl, rfl⟩
      go_wp2_with fail
      refine (c4 _).mono ?_
      rintro e w5 ⟨rfl, rfl⟩
      clear c2 c4
      go_wp2_with fail
      go_ret
      exact ⟨rfl, hb⟩
  | true =>
    obtain ⟨k, rfl, hk⟩ := sl_nat hsl
    rw [putR_sl hk] at c2
    rw [drpR_sl hk] at c4
    have hP := put_lt hs hk
    have hD := drp_lt (n := k) hs
    have f1 := has_any (put s k) hP (k : Int)
    have f2 := has_any (drp s k) hD (k : Int)
    rw [put_has hk] at f1
    rw [drp_has hk] at f2
    have f3 := count_any (put s k) hP
    have f4 := count_any (drp s k) hD
    rw [put_drp hs hk] at f3
    have f5 := has_any (put s k) hP o
    have f6 := has_any (drp s k) hD o
    have f7 := has_any s hs o
    have hneg : decide ((k : Int) < 0) = false := by simp
    have hbig : decide (64 ≤ (k : Int)) = false := by simp; omega
    have hL := bl_len (drp s k)
    by_cases ho : o = (k : Int)
    · generalize put s k = a at *
      generalize (bl (drp s k)).length = L at *
      generalize drp s k = b at *
      clear f5 f6 f7
      subst ho
      go_enter Tryd.func4, Tryd.ntmps4
      go_wp2_with fail
      refine c1.mono ?_
      rintro e w2 ⟨rfl, hb⟩
      clear c1
      go_wp2_with fail
      refine (c2 _).mono ?_
      rintro e w3 ⟨rfl, rfl⟩
      go_wp2_with fail
      refine (c4 _).mono ?_
      rintro e w5 ⟨rfl, rfl⟩
      clear c2 c4
      go_wp2_with fail
      refine (f1 _).mono ?_
      rintro e w5 ⟨rfl, rfl⟩
      go_wp2_with fail
      refine (f2 _).mono ?_
      rintro e w5 ⟨rfl, rfl⟩
      go_wp2_with fail
      refine (f3 _).mono ?_
      rintro e w5 ⟨rfl, rfl⟩
      go_wp2_with fail
      refine (f4 _).mono ?_
      rintro e w5 ⟨rfl, rfl⟩
      clear f1 f2 f3 f4
      go_wp2_with fail
      go_ret
      exact ⟨rfl, hb⟩
    · rw [put_other hk ho] at f5
      rw [drp_other hk ho] at f6
      generalize put s k = a at *
      generalize (bl (drp s k)).length = L at *
      generalize drp s k = b at *
      generalize _root_.Go.Proofs.YtljbnhgcfmehoaaDoor.hs s o = h at *
      go_enter Tryd.func4, Tryd.ntmps4
      go_wp2_with fail
      refine c1.mono ?_
      rintro e w2 ⟨rfl, hb⟩
      clear c1
      go_wp2_with fail
      refine (c2 _).mono ?_
      rintro e w3 ⟨rfl, rfl⟩
      go_wp2_with fail
      refine (c4 _).mono ?_
      rintro e w5 ⟨rfl, rfl⟩
      clear c2 c4
      go_wp2_with fail
      refine (f1 _).mono ?_
      rintro e w5 ⟨rfl, rfl⟩
      go_wp2_with fail
      refine (f2 _).mono ?_
      rintro e w5 ⟨rfl, rfl⟩
      go_wp2_with fail
      refine (f3 _).mono ?_
      rintro e w5 ⟨rfl, rfl⟩
      go_wp2_with fail
      refine (f4 _).mono ?_
      rintro e w5 ⟨rfl, rfl⟩
      clear f1 f2 f3 f4
      go_wp2_with fail
      refine (f5 _).mono ?_
      rintro e w5 ⟨rfl, rfl⟩
      go_wp2_with fail
      refine (f7 _).mono ?_
      rintro e w5 ⟨rfl, rfl⟩
      go_wp2_with fail
      refine (f6 _).mono ?_
      rintro e w5 ⟨rfl, rfl⟩
      go_wp2_with fail
      refine (f7 _).mono ?_
      rintro e w5 ⟨rfl, rfl⟩
      clear f5 f6 f7
      go_wp2_with fail
      go_ret
      exact ⟨rfl, hb⟩
theorem own : ownKnob Tryd.prog.godebug = none := by kernel_rfl
theorem laidOut : laidOutB Tryd.prog = true := by kernel_rfl
theorem contract (H : Type) (enc : TypeId × Value → H) (W : World) (base : Nat) (args : Array Value) (ds gs : List (DataW H)) (before : List MemPlace)
    (hval : ∀ (j : Nat) t v, Tryd.f4.params[j]? = some t → args[j]? = some v → Value.okWide Tryd.prog W .any base t v)
    (hW : DataW.Whole enc Tryd.prog Tryd.f4.params.toList Rows.seatsOneSpec.vars false W args.toList ds gs before)
    (hsz : (DataW.weightsEach Tryd.prog (Tryd.f4.params.toList ++ Rows.seatsOneSpec.plain.varTypes Tryd.prog) (ds ++ gs)).all (· ≤ reachBytes) = true)
    (hL : laidMetH Tryd.prog Rows.seatsOneRow.laid W) :
    Calls Tryd.prog 4 args W fun e W' => ∃ v, e = .returned v ∧ Rows.seatsOneSpec.post enc Tryd.prog Tryd.f4 false true false false W args v W' := by
  have hv := vs_of hL
  have hW' := hW
  obtain ⟨p, q, hA0, hV, rfl, hfz, hnd⟩ := hW
  have hA : DataW.TrodAll enc Tryd.prog W 0 (fun _ => true) true Tryd.f4.params.toList args.toList ds p := hA0
  rw [Tryd.params4] at hA hval hsz
  obtain ⟨v0, vs0, d0, ds0, p0, q0, hargs, rfl, rfl, h0, r0⟩ := trodAll_cons hA
  obtain ⟨v1, vs1, d1, ds1, p1, q1, rfl, rfl, rfl, h1, r1⟩ := trodAll_cons r0
  obtain ⟨v2, vs2, d2, ds2, p2, q2, rfl, rfl, rfl, h2, r2⟩ := trodAll_cons r1
  obtain ⟨rfl, rfl, rfl⟩ := trodAll_nil r2
  obtain rfl : args = #[v0, v1, v2] := by cases args; simp_all
  obtain ⟨rfl, rfl⟩ := trodVars_none hV
  obtain ⟨a0, rfl, rfl, rfl, w0⟩ := open_int Tryd.underlying22 (hval 0 22 v0 rfl rfl) h0
  obtain ⟨a1, rfl, rfl, rfl, w1⟩ := open_int Tryd.underlying3 (hval 1 3 v1 rfl rfl) h1
  obtain ⟨a2, rfl, rfl, rfl, w2⟩ := open_int Tryd.underlying3 (hval 2 3 v2 rfl rfl) h2
  clear hA0
  refine (walk a0 a1 a2 w0 w1 w2 W hv).mono fun e W' ⟨he, bel⟩ => ?_
  subst he
  exact ⟨_, rfl, _, _, _, [], _, [], hW', trodAll_mk1 (shut_bool Tryd.underlying4 _), (trodAll_cons_mk (shut_int Tryd.underlying22 w0) (trodAll_cons_mk (shut_int Tryd.underlying3 w1) (trodAll_cons_mk (shut_int Tryd.underlying3 w2) trodAll_mk0))), rfl, bel.frame _, fun h => by cases h⟩
set_option maxRecDepth 100000 in
theorem laid_met (os : Os) : laidMet Tryd.prog Rows.seatsOneRow.laid ((laidWorld os).forCall (fun _ _ => 0) ⟨#[], #[.int .u64 0, .int .i64 0, .int .i64 0], []⟩).memory :=
  laidMet_of_run' 8 (by kernel_rfl) (by kernel_rfl)
set_option maxRecDepth 100000 in
theorem reads (os : Os) {H : Type} (enc : TypeId × Value → H) : ∃ places, DataW.whole enc Tryd.prog ((laidWorld os).forCall (fun _ _ => 0) ⟨#[], #[.int .u64 0, .int .i64 0, .int .i64 0], []⟩).memory Tryd.f4.params.toList Rows.seatsOneSpec.vars false (#[.int .u64 0, .int .i64 0, .int .i64 0] : Array Value).toList 8 = some ([.lit (.int .u64 0), .lit (.int .i64 0), .lit (.int .i64 0)], [], places) :=
  ⟨[], by kernel_rfl⟩
set_option maxRecDepth 100000 in
theorem lifted (os : Os) (started : os.Started) (H : Type) (enc : TypeId × Value → H) (F : Stop.Interp) :
    ReturnsInHanded {} Tryd.checked os 4 .any ((OpenSpec.ofChange Rows.seatsOneSpec).preRow enc Tryd.prog Tryd.f4 Rows.seatsOneRow.domain false Rows.seatsOneRow.laid) (((OpenSpec.ofChange Rows.seatsOneSpec).at F).post enc Tryd.prog Tryd.f4 false true false false) := by
  obtain ⟨places, hx⟩ := reads os enc
  refine returnsInHanded_of_row (C := Tryd.checked) (s := (OpenSpec.ofChange Rows.seatsOneSpec)) own started (by kernel_rfl) Tryd.func4
    (witness_row_at (enc := enc) (C := Tryd.checked) false (laidWorld os) #[.int .u64 0, .int .i64 0, .int .i64 0] rfl (by kernel_rfl) (by kernel_rfl) (by kernel_rfl)
      (OpenSpec.preRow_of_cond 8 hx (by kernel_rfl) (fun k hk => by cases hk) (by kernel_rfl) (laid_met os))) ?_
  intro W base args ds gs before hval hW hc1 hc2 hsz hL hsh _
  exact contract H enc W base args ds gs before hval hW hsz hL
theorem said : Rows.SeatsOneSaid :=
  OpenClaim.holds_of_cond 4 Tryd.f4 rfl rfl rfl rfl rfl rfl rfl ⟨rfl, rfl, rfl, rfl, rfl⟩ rfl rfl rfl rfl rfl (by kernel_rfl) Tryd.func4 (by kernel_rfl)
    (of_decide_eq_true (by kernel_rfl)) (by unfold Func.isWrapper; first | (rw [if_pos (by decide +kernel)]; kernel_rfl) | (rw [if_neg (by decide +kernel)]; exact ⟨rfl, rfl⟩))
    (fun os started H enc _ F => by rw [OpenClaim.pre_eq_preRow]; exact lifted os started H enc F)
theorem plain (f : FuncId) (fn : Func) (hf : Tryd.pinned.checked.prog.funcNamed "coterie/coterielaw08.SeatsOne" = some f) (hfn : Tryd.pinned.checked.prog.funcs[f]? = some fn) :
    true = Tryd.pinned.checked.prog.looks [] ∧ ∀ (j : Nat) t, fn.params[j]? = some t → Tryd.pinned.checked.prog.wantsStandIn t = false := by
  obtain rfl : f = 4 := Option.some.inj ((show Tryd.prog.funcNamed "coterie/coterielaw08.SeatsOne" = some 4 by kernel_rfl).symm.trans hf) |>.symm
  obtain rfl : fn = Tryd.f4 := (Option.some.inj (Tryd.func4.symm.trans hfn)).symm
  refine ⟨by kernel_rfl, fun j t ht => ?_⟩
  rw [Tryd.params4] at ht
  have h3 : Tryd.prog.wantsStandIn 3 = false := by kernel_rfl
  have h22 : Tryd.prog.wantsStandIn 22 = false := by kernel_rfl
  have hm := Array.mem_of_getElem? ht
  simp at hm
  rcases hm with rfl | rfl
  · exact h22
  · exact h3
end Go.Proofs.YtljbnhgcfmehoaaDoor.seatsOne
namespace Go.Proofs.YtljbnhgcfmehoaaDoor
theorem seatsOne_holds : Rows.SeatsOneCardSaid :=
  Claim7.holds_tied_plain_at .later [] _ _ _ _ seatsOne.said (fun _ h => by cases h) (by kernel_rfl) (fun _ h => by cases h) seatsOne_row_tie rfl ⟨rfl, rfl⟩ (by kernel_rfl) rfl seatsOne.plain (by kernel_rfl)
#print axioms seatsOne_holds
end Go.Proofs.YtljbnhgcfmehoaaDoor
