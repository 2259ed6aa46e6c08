/- For every word: Next of package seats leads through List, and Count tells its length: SeatsWalk, in its first form (the listed variables as the program's text lays them), and the card. -/
import Derived.Test.YtljbnhgcfmehoaaDoorCards
import Derived.Test.YtljbnhgcfmehoaaDoorTie
import Derived.Test.YtljbnhgcfmehoaaDoorStV
import Derived.WalkKit
import Derived.ProofKit
import Derived.OpenShut
import Derived.Deep.DeepHandedRow
import Derived.Deep.DeepWitnessRowRef
import Derived.SizedLaws
namespace Go.Proofs.YtljbnhgcfmehoaaDoor.seatsWalk
open Go.ChangeShapes Go.WideShapes Go.ChangeAt Go.RowKit Go.Maps Go.Shelf
set_option linter.unusedVariables false
set_option linter.unusedSimpArgs false

theorem vs_of {W : World} (hL : laidMetH Tryd.prog Rows.seatsWalkRow.laid W) : Tb W := tb_of (show laidMet Tryd.prog Rows.seatsWalkRow.laid W from hL)
set_option maxRecDepth 100000 in
set_option maxHeartbeats 2000000 in
theorem walk (a0 : Int) (w0 : (Lit.int .u64 a0).wf = true) (w : World) (hT : Tb w) :
    Calls Tryd.prog 7 #[.int .u64 a0] w fun e w' => e = .returned (.bool true) ∧ Below w.heap.size w w' := by
  obtain ⟨s, rfl, hs⟩ := u64_wf w0
  clear w0
  go_enter Tryd.func7, Tryd.ntmps7
  go_wp2_with fail
  refine (lives_any w hT).mono ?_
  rintro e w1 ⟨rfl, hb1⟩
  have hT1 := hT.later hb1
  go_wp2_with fail
  refine (list_any s hs w1 hT1).mono ?_
  rintro e w2 ⟨⟨v, rfl, hv⟩, hb2⟩
  have hx2 := hb1.trans (hb2.mono hb1.size)
  have hT2 := hT.later hx2
  obtain ⟨a, cap, rfl, hr⟩ := hv.rd
  have hlen := bl_len s
  obtain ⟨l, hl⟩ : ∃ l, bl s = l := ⟨_, rfl⟩
  rw [hl] at hr hlen ⊢
  have HL : Hid (bl s = l) := hl
  have HC := fun (W : World) => count_any s hs W
  rw [hl] at HC
  clear hv hb2 hb1 hT1 hl
  go_wp2_with fail
  go_loopw [4, 5] (fun at' i wx => ∃ k p : Nat, k ≤ l.length ∧ p ≤ 64 ∧ at' = .int .i64 (p : Int) ∧ i = .int .i64 (k : Int) ∧ bf s p (64 - p) = l.drop k ∧ Below w2.heap.size w2 wx) (fun _ i _ => l.length + 1 - (intOf i).toNat)
  case atStart => exact ⟨0, 0, by omega, by omega, rfl, rfl, HL.out, Below.refl _ _⟩
  case round =>
    obtain ⟨k, p, hk, hp, rfl, rfl, hbf, hbw⟩ := hrel
    have hTr := hT2.later hbw
    have hnx := next_any s hs (p : Int) (by omega) (by omega) wr hTr
    have hfm : fm (p : Int) = p := by unfold fm; omega
    unfold nx at hnx
    rw [hfm, hbf] at hnx
    clear hfm
    by_cases hkl : k < l.length
    · have hdr : l.drop k = l[k] :: l.drop (k + 1) := List.drop_eq_getElem_cons hkl
      obtain ⟨X, hX⟩ : ∃ X, l[k] = X := ⟨_, rfl⟩
      rw [hX] at hdr
      rw [hdr] at hbf
      obtain ⟨h1, h2, h3, h4⟩ := bf_tail hbf
      rw [hdr, show hd (X :: l.drop (k + 1)) = (X : Int) from rfl] at hnx
      have hX64 : X < 64 := by omega
      have hhas := has_any s hs (X : Int)
      rw [hs_sl hX64, h3] at hhas
      have hrk : RdI wr a (zs l) := hr.later hbw
      obtain ⟨b, o, rfl, hcell⟩ := hrk k (by simpa using hkl)
      rw [zs_getD l k hkl, hX] at hcell
      have HN : Hid (bf s (X + 1) (64 - (X + 1)) = l.drop (k + 1)) := by show bf s (X + 1) (64 - (X + 1)) = l.drop (k + 1); rw [h4, show p + (64 - p) - (X + 1) = 64 - (X + 1) by omega]
      clear hdr hX hbf h3 h4 hrk hr HC
      have i0 : (k : Int) ≤ (l.length : Int) := by omega
      have i1 : ¬ ((k : Int) = (l.length : Int)) := by omega
      have i2 : (k : Int) < (l.length : Int) := by omega
      have i3 : ¬ ((X : Int) < (p : Int)) := by omega
      have i4 : 0 ≤ (k : Int) := by omega
      generalize l.length = N at *
      go_wp2_with fail
      refine hnx.mono ?_
      rintro e w3 ⟨rfl, hb3⟩
      have hcell3 := cell_later hb3 hcell
      clear hnx
      go_wp2_with fail
      refine (hhas _).mono ?_
      rintro e w4 ⟨rfl, rfl⟩
      clear hhas
      go_wp2_with fail
      go_roundw
      case rel => exact ⟨k + 1, X + 1, by omega, by omega, by go_num, by go_num, HN.out, hbw.trans (hb3.mono hbw.size)⟩
      case measure => simp [intOf]; omega
    · obtain rfl : k = l.length := by omega
      rw [List.drop_length, show hd [] = -1 from rfl] at hnx
      have i1 : (((l.length : Nat) : Int) ≤ ((l.length : Nat) : Int)) = True := by simp
      clear hr hbf
      generalize l.length = N at *
      go_wp2_with fail
      refine hnx.mono ?_
      rintro e w3 ⟨rfl, hb3⟩
      clear hnx
      go_wp2_with fail
      refine (HC _).mono ?_
      rintro e w4 ⟨rfl, rfl⟩
      clear HC
      go_wp2_with fail
      go_ret
      have hx3 := hbw.trans (hb3.mono hbw.size)
      exact ⟨rfl, hx2.trans (hx3.mono hx2.size)⟩
theorem own : ownKnob Tryd.prog.godebug = none := by kernel_rfl
theorem laidOut : laidOutB Tryd.prog = true := by kernel_rfl
theorem contract (H : Type) (enc : TypeId × Value → H) (W : World) (base : Nat) (args : Array Value) (ds gs : List (DataW H)) (before : List MemPlace)
    (hval : ∀ (j : Nat) t v, Tryd.f7.params[j]? = some t → args[j]? = some v → Value.okWide Tryd.prog W .any base t v)
    (hW : DataW.Whole enc Tryd.prog Tryd.f7.params.toList Rows.seatsWalkSpec.vars false W args.toList ds gs before)
    (hsz : (DataW.weightsEach Tryd.prog (Tryd.f7.params.toList ++ Rows.seatsWalkSpec.plain.varTypes Tryd.prog) (ds ++ gs)).all (· ≤ reachBytes) = true)
    (hL : laidMetH Tryd.prog Rows.seatsWalkRow.laid W) :
    Calls Tryd.prog 7 args W fun e W' => ∃ v, e = .returned v ∧ Rows.seatsWalkSpec.post enc Tryd.prog Tryd.f7 false true false false W args v W' := by
  have hv := vs_of hL
  have hW' := hW
  obtain ⟨p, q, hA0, hV, rfl, hfz, hnd⟩ := hW
  have hA : DataW.TrodAll enc Tryd.prog W 0 (fun _ => true) true Tryd.f7.params.toList args.toList ds p := hA0
  rw [Tryd.params7] at hA hval hsz
  obtain ⟨v0, vs0, d0, ds0, p0, q0, hargs, rfl, rfl, h0, r0⟩ := trodAll_cons hA
  obtain ⟨rfl, rfl, rfl⟩ := trodAll_nil r0
  obtain rfl : args = #[v0] := by cases args; simp_all
  obtain ⟨rfl, rfl⟩ := trodVars_none hV
  obtain ⟨a0, rfl, rfl, rfl, w0⟩ := open_int Tryd.underlying22 (hval 0 22 v0 rfl rfl) h0
  clear hA0
  refine (walk a0 w0 W hv).mono fun e W' ⟨he, bel⟩ => ?_
  subst he
  exact ⟨_, rfl, _, _, _, [], _, [], hW', trodAll_mk1 (shut_bool Tryd.underlying4 _), (trodAll_cons_mk (shut_int Tryd.underlying22 w0) trodAll_mk0), rfl, bel.frame _, fun h => by cases h⟩
set_option maxRecDepth 100000 in
theorem laid_met (os : Os) : laidMet Tryd.prog Rows.seatsWalkRow.laid ((laidWorld os).forCall (fun _ _ => 0) ⟨#[], #[.int .u64 0], []⟩).memory :=
  laidMet_of_run' 8 (by kernel_rfl) (by kernel_rfl)
set_option maxRecDepth 100000 in
theorem reads (os : Os) {H : Type} (enc : TypeId × Value → H) : ∃ places, DataW.whole enc Tryd.prog ((laidWorld os).forCall (fun _ _ => 0) ⟨#[], #[.int .u64 0], []⟩).memory Tryd.f7.params.toList Rows.seatsWalkSpec.vars false (#[.int .u64 0] : Array Value).toList 8 = some ([.lit (.int .u64 0)], [], places) :=
  ⟨[], by kernel_rfl⟩
set_option maxRecDepth 100000 in
theorem lifted (os : Os) (started : os.Started) (H : Type) (enc : TypeId × Value → H) (F : Stop.Interp) :
    ReturnsInHanded {} Tryd.checked os 7 .any ((OpenSpec.ofChange Rows.seatsWalkSpec).preRow enc Tryd.prog Tryd.f7 Rows.seatsWalkRow.domain false Rows.seatsWalkRow.laid) (((OpenSpec.ofChange Rows.seatsWalkSpec).at F).post enc Tryd.prog Tryd.f7 false true false false) := by
  obtain ⟨places, hx⟩ := reads os enc
  refine returnsInHanded_of_row (C := Tryd.checked) (s := (OpenSpec.ofChange Rows.seatsWalkSpec)) own started (by kernel_rfl) Tryd.func7
    (witness_row_at (enc := enc) (C := Tryd.checked) false (laidWorld os) #[.int .u64 0] rfl (by kernel_rfl) (by kernel_rfl) (by kernel_rfl)
      (OpenSpec.preRow_of_cond 8 hx (by kernel_rfl) (fun k hk => by cases hk) (by kernel_rfl) (laid_met os))) ?_
  intro W base args ds gs before hval hW hc1 hc2 hsz hL hsh _
  exact contract H enc W base args ds gs before hval hW hsz hL
theorem said : Rows.SeatsWalkSaid :=
  OpenClaim.holds_of_cond 7 Tryd.f7 rfl rfl rfl rfl rfl rfl rfl ⟨rfl, rfl, rfl, rfl, rfl⟩ rfl rfl rfl rfl rfl (by kernel_rfl) Tryd.func7 (by kernel_rfl)
    (of_decide_eq_true (by kernel_rfl)) (by unfold Func.isWrapper; first | (rw [if_pos (by decide +kernel)]; kernel_rfl) | (rw [if_neg (by decide +kernel)]; exact ⟨rfl, rfl⟩))
    (fun os started H enc _ F => by rw [OpenClaim.pre_eq_preRow]; exact lifted os started H enc F)
theorem plain (f : FuncId) (fn : Func) (hf : Tryd.pinned.checked.prog.funcNamed "coterie/coterielaw08.SeatsWalk" = some f) (hfn : Tryd.pinned.checked.prog.funcs[f]? = some fn) :
    true = Tryd.pinned.checked.prog.looks [] ∧ ∀ (j : Nat) t, fn.params[j]? = some t → Tryd.pinned.checked.prog.wantsStandIn t = false := by
  obtain rfl : f = 7 := Option.some.inj ((show Tryd.prog.funcNamed "coterie/coterielaw08.SeatsWalk" = some 7 by kernel_rfl).symm.trans hf) |>.symm
  obtain rfl : fn = Tryd.f7 := (Option.some.inj (Tryd.func7.symm.trans hfn)).symm
  refine ⟨by kernel_rfl, fun j t ht => ?_⟩
  rw [Tryd.params7] at ht
  have h22 : Tryd.prog.wantsStandIn 22 = false := by kernel_rfl
  have hm := Array.mem_of_getElem? ht
  simp at hm
  subst hm
  exact h22
end Go.Proofs.YtljbnhgcfmehoaaDoor.seatsWalk
namespace Go.Proofs.YtljbnhgcfmehoaaDoor
theorem seatsWalk_holds : Rows.SeatsWalkCardSaid :=
  Claim7.holds_tied_plain_at .later [] _ _ _ _ seatsWalk.said (fun _ h => by cases h) (by kernel_rfl) (fun _ h => by cases h) seatsWalk_row_tie rfl ⟨rfl, rfl⟩ (by kernel_rfl) rfl seatsWalk.plain (by kernel_rfl)
#print axioms seatsWalk_holds
end Go.Proofs.YtljbnhgcfmehoaaDoor
