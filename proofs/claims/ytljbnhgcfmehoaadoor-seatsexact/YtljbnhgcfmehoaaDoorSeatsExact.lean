/- For every word and every number: Has, Put, Drop, Count, Lowest and Next of package seats answer what the document says: SeatsExact, in its first form (the listed variables as the program's text lays them), and the card. -/
import Derived.Test.YtljbnhgcfmehoaaDoorCards
import Derived.Test.YtljbnhgcfmehoaaDoorTie
import Derived.Test.YtljbnhgcfmehoaaDoorStV
import Derived.WalkKit
import Derived.ProofKit
import Derived.OpenShut
import Derived.Deep.DeepHandedRow
import Derived.Deep.DeepWitnessRowRef
import Derived.SizedLaws
namespace Go.Proofs.YtljbnhgcfmehoaaDoor.seatsExact
open Go.ChangeShapes Go.WideShapes Go.ChangeAt Go.RowKit Go.Maps Go.Shelf
set_option linter.unusedVariables false
set_option linter.unusedSimpArgs false

theorem vs_of {W : World} (hL : laidMetH Tryd.prog Rows.seatsExactRow.laid W) : Tb W := tb_of (show laidMet Tryd.prog Rows.seatsExactRow.laid W from hL)
set_option maxRecDepth 100000 in
set_option maxHeartbeats 2000000 in
theorem walk (a0 n : Int) (w0 : (Lit.int .u64 a0).wf = true) (w1 : (Lit.int .i64 n).wf = true) (w : World) (hT : Tb w) :
    Calls Tryd.prog 3 #[.int .u64 a0, .int .i64 n] w fun e w' => e = .returned (.bool true) ∧ Below w.heap.size w w' := by
  obtain ⟨s, rfl, hs⟩ := u64_wf w0
  obtain ⟨hn0, hn1⟩ := i64_wf w1
  clear w0 w1
  have c1 := fun (W : World) (h : Tb W) => lives_any W h
  have c2 := put_any s hs n
  have c3 := rSet_any s hs n true
  have c4 := drop_any s hs n
  have c5 := rSet_any s hs n false
  rw [show setR s n true = putR s n from rfl] at c3
  rw [show setR s n false = drpR s n from rfl] at c5
  have c6 := has_any s hs n
  have c7 := rHas_any s hs n
  have c8 := count_any s hs
  have c9 := rCount_any s hs
  have c10 := fun (W : World) (h : Tb W) => lowest_any s hs W h
  have c11 := rLowest_any s hs
  have c12 := fun (W : World) (h : Tb W) => next_any s hs n hn0 hn1 W h
  have c13 := rNext_any s hs n hn0 hn1
  obtain ⟨p0, p1, hp⟩ : ∃ p0 p1 : Int, putR s n = .tuple #[.int .u64 p0, .int .i64 p1] := by unfold putR; split <;> exact ⟨_, _, rfl⟩
  obtain ⟨d0, d1, hd⟩ : ∃ d0 d1 : Int, drpR s n = .tuple #[.int .u64 d0, .int .i64 d1] := by unfold drpR; split <;> exact ⟨_, _, rfl⟩
  rw [hp] at c2 c3
  rw [hd] at c4 c5
  generalize _root_.Go.Proofs.YtljbnhgcfmehoaaDoor.hs s n = b at *
  generalize (bl s).length = L at *
  generalize _root_.Go.Proofs.YtljbnhgcfmehoaaDoor.hd (bl (nt s)) = lo at *
  generalize nx s n = nn at *
  clear hp hd
  go_enter Tryd.func3, Tryd.ntmps3
  go_wp2_with fail
  refine (c1 _ hT).mono ?_
  rintro e w2 ⟨rfl, hb⟩
  have hT2 := hT.later hb
  clear c1
  go_wp2_with fail
  refine (c2 _).mono ?_
  rintro e w3 ⟨rfl, rfl⟩
  go_wp2_with fail
  refine (c3 _).mono ?_
  rintro e w4 ⟨rfl, hb4⟩
  go_wp2_with fail
  refine (c4 _).mono ?_
  rintro e w5 ⟨rfl, rfl⟩
  go_wp2_with fail
  refine (c5 _).mono ?_
  rintro e w6 ⟨rfl, hb6⟩
  have hx := hb.trans ((hb4.trans (hb6.mono hb4.size)).mono hb.size)
  have hT6 := hT.later hx
  clear c2 c3 c4 c5 hb4 hb6 hb
  go_wp2_with fail
  refine (c6 _).mono ?_
  rintro e w7 ⟨rfl, rfl⟩
  go_wp2_with fail
  refine (c7 _).mono ?_
  rintro e w8 ⟨rfl, hb8⟩
  have hx8 := hx.trans (hb8.mono hx.size)
  have hT8 := hT.later hx8
  clear c6 c7 hb8 hx
  go_wp2_with fail
  refine (c8 _).mono ?_
  rintro e w9 ⟨rfl, rfl⟩
  go_wp2_with fail
  refine (c9 _).mono ?_
  rintro e w10 ⟨rfl, hb10⟩
  have hx10 := hx8.trans (hb10.mono hx8.size)
  have hT10 := hT.later hx10
  clear c8 c9 hb10 hx8
  go_wp2_with fail
  refine (c10 _ hT10).mono ?_
  rintro e w11 ⟨rfl, hb11⟩
  go_wp2_with fail
  refine (c11 _).mono ?_
  rintro e w12 ⟨rfl, hb12⟩
  have hx12 := hx10.trans ((hb11.trans (hb12.mono hb11.size)).mono hx10.size)
  have hT12 := hT.later hx12
  clear c10 c11 hb11 hb12 hx10
  go_wp2_with fail
  refine (c12 _ hT12).mono ?_
  rintro e w13 ⟨rfl, hb13⟩
  go_wp2_with fail
  refine (c13 _).mono ?_
  rintro e w14 ⟨rfl, hb14⟩
  have hx14 := hx12.trans ((hb13.trans (hb14.mono hb13.size)).mono hx12.size)
  clear c12 c13
  go_wp2_with fail
  go_ret
  exact ⟨rfl, hx14⟩
theorem own : ownKnob Tryd.prog.godebug = none := by kernel_rfl
theorem laidOut : laidOutB Tryd.prog = true := by kernel_rfl
theorem contract (H : Type) (enc : TypeId × Value → H) (W : World) (base : Nat) (args : Array Value) (ds gs : List (DataW H)) (before : List MemPlace)
    (hval : ∀ (j : Nat) t v, Tryd.f3.params[j]? = some t → args[j]? = some v → Value.okWide Tryd.prog W .any base t v)
    (hW : DataW.Whole enc Tryd.prog Tryd.f3.params.toList Rows.seatsExactSpec.vars false W args.toList ds gs before)
    (hsz : (DataW.weightsEach Tryd.prog (Tryd.f3.params.toList ++ Rows.seatsExactSpec.plain.varTypes Tryd.prog) (ds ++ gs)).all (· ≤ reachBytes) = true)
    (hL : laidMetH Tryd.prog Rows.seatsExactRow.laid W) :
    Calls Tryd.prog 3 args W fun e W' => ∃ v, e = .returned v ∧ Rows.seatsExactSpec.post enc Tryd.prog Tryd.f3 false true false false W args v W' := by
  have hv := vs_of hL
  have hW' := hW
  obtain ⟨p, q, hA0, hV, rfl, hfz, hnd⟩ := hW
  have hA : DataW.TrodAll enc Tryd.prog W 0 (fun _ => true) true Tryd.f3.params.toList args.toList ds p := hA0
  rw [Tryd.params3] at hA hval hsz
  obtain ⟨v0, vs0, d0, ds0, p0, q0, hargs, rfl, rfl, h0, r0⟩ := trodAll_cons hA
  obtain ⟨v1, vs1, d1, ds1, p1, q1, rfl, rfl, rfl, h1, r1⟩ := trodAll_cons r0
  obtain ⟨rfl, rfl, rfl⟩ := trodAll_nil r1
  obtain rfl : args = #[v0, v1] := by cases args; simp_all
  obtain ⟨rfl, rfl⟩ := trodVars_none hV
  obtain ⟨a0, rfl, rfl, rfl, w0⟩ := open_int Tryd.underlying22 (hval 0 22 v0 rfl rfl) h0
  obtain ⟨a1, rfl, rfl, rfl, w1⟩ := open_int Tryd.underlying3 (hval 1 3 v1 rfl rfl) h1
  clear hA0
  refine (walk a0 a1 w0 w1 W hv).mono fun e W' ⟨he, bel⟩ => ?_
  subst he
  exact ⟨_, rfl, _, _, _, [], _, [], hW', trodAll_mk1 (shut_bool Tryd.underlying4 _), (trodAll_cons_mk (shut_int Tryd.underlying22 w0) (trodAll_cons_mk (shut_int Tryd.underlying3 w1) trodAll_mk0)), rfl, bel.frame _, fun h => by cases h⟩
set_option maxRecDepth 100000 in
theorem laid_met (os : Os) : laidMet Tryd.prog Rows.seatsExactRow.laid ((laidWorld os).forCall (fun _ _ => 0) ⟨#[], #[.int .u64 0, .int .i64 0], []⟩).memory :=
  laidMet_of_run' 8 (by kernel_rfl) (by kernel_rfl)
set_option maxRecDepth 100000 in
theorem reads (os : Os) {H : Type} (enc : TypeId × Value → H) : ∃ places, DataW.whole enc Tryd.prog ((laidWorld os).forCall (fun _ _ => 0) ⟨#[], #[.int .u64 0, .int .i64 0], []⟩).memory Tryd.f3.params.toList Rows.seatsExactSpec.vars false (#[.int .u64 0, .int .i64 0] : Array Value).toList 8 = some ([.lit (.int .u64 0), .lit (.int .i64 0)], [], places) :=
  ⟨[], by kernel_rfl⟩
set_option maxRecDepth 100000 in
theorem lifted (os : Os) (started : os.Started) (H : Type) (enc : TypeId × Value → H) (F : Stop.Interp) :
    ReturnsInHanded {} Tryd.checked os 3 .any ((OpenSpec.ofChange Rows.seatsExactSpec).preRow enc Tryd.prog Tryd.f3 Rows.seatsExactRow.domain false Rows.seatsExactRow.laid) (((OpenSpec.ofChange Rows.seatsExactSpec).at F).post enc Tryd.prog Tryd.f3 false true false false) := by
  obtain ⟨places, hx⟩ := reads os enc
  refine returnsInHanded_of_row (C := Tryd.checked) (s := (OpenSpec.ofChange Rows.seatsExactSpec)) own started (by kernel_rfl) Tryd.func3
    (witness_row_at (enc := enc) (C := Tryd.checked) false (laidWorld os) #[.int .u64 0, .int .i64 0] rfl (by kernel_rfl) (by kernel_rfl) (by kernel_rfl)
      (OpenSpec.preRow_of_cond 8 hx (by kernel_rfl) (fun k hk => by cases hk) (by kernel_rfl) (laid_met os))) ?_
  intro W base args ds gs before hval hW hc1 hc2 hsz hL hsh _
  exact contract H enc W base args ds gs before hval hW hsz hL
theorem said : Rows.SeatsExactSaid :=
  OpenClaim.holds_of_cond 3 Tryd.f3 rfl rfl rfl rfl rfl rfl rfl ⟨rfl, rfl, rfl, rfl, rfl⟩ rfl rfl rfl rfl rfl (by kernel_rfl) Tryd.func3 (by kernel_rfl)
    (of_decide_eq_true (by kernel_rfl)) (by unfold Func.isWrapper; first | (rw [if_pos (by decide +kernel)]; kernel_rfl) | (rw [if_neg (by decide +kernel)]; exact ⟨rfl, rfl⟩))
    (fun os started H enc _ F => by rw [OpenClaim.pre_eq_preRow]; exact lifted os started H enc F)
theorem plain (f : FuncId) (fn : Func) (hf : Tryd.pinned.checked.prog.funcNamed "coterie/coterielaw08.SeatsExact" = some f) (hfn : Tryd.pinned.checked.prog.funcs[f]? = some fn) :
    true = Tryd.pinned.checked.prog.looks [] ∧ ∀ (j : Nat) t, fn.params[j]? = some t → Tryd.pinned.checked.prog.wantsStandIn t = false := by
  obtain rfl : f = 3 := Option.some.inj ((show Tryd.prog.funcNamed "coterie/coterielaw08.SeatsExact" = some 3 by kernel_rfl).symm.trans hf) |>.symm
  obtain rfl : fn = Tryd.f3 := (Option.some.inj (Tryd.func3.symm.trans hfn)).symm
  refine ⟨by kernel_rfl, fun j t ht => ?_⟩
  rw [Tryd.params3] at ht
  have h3 : Tryd.prog.wantsStandIn 3 = false := by kernel_rfl
  have h22 : Tryd.prog.wantsStandIn 22 = false := by kernel_rfl
  have hm := Array.mem_of_getElem? ht
  simp at hm
  rcases hm with rfl | rfl
  · exact h22
  · exact h3
end Go.Proofs.YtljbnhgcfmehoaaDoor.seatsExact
namespace Go.Proofs.YtljbnhgcfmehoaaDoor
theorem seatsExact_holds : Rows.SeatsExactCardSaid :=
  Claim7.holds_tied_plain_at .later [] _ _ _ _ seatsExact.said (fun _ h => by cases h) (by kernel_rfl) (fun _ h => by cases h) seatsExact_row_tie rfl ⟨rfl, rfl⟩ (by kernel_rfl) rfl seatsExact.plain (by kernel_rfl)
#print axioms seatsExact_holds
end Go.Proofs.YtljbnhgcfmehoaaDoor
