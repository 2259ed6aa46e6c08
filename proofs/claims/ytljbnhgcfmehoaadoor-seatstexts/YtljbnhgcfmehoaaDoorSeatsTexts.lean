/- For every word and every text: Hex and Parse of package seats answer what the document says, and undo one another: SeatsTexts, in its first form (no condition but the form's own reach; the listed variables as the program's text lays them), and the card. -/
import Derived.Test.YtljbnhgcfmehoaaDoorCards
import Derived.Test.YtljbnhgcfmehoaaDoorTie
import Derived.Test.YtljbnhgcfmehoaaDoorStV
import Derived.Test.YtljbnhgcfmehoaaDoorStQ
import Derived.WalkKit
import Derived.ProofKit
import Derived.OpenShut
import Derived.Deep.DeepHandedRow
import Derived.Deep.DeepWitnessRowRef
import Derived.SizedLaws
import Derived.Lib.SmallJoins
namespace Go.Proofs.YtljbnhgcfmehoaaDoor.seatsTexts
open Go.ChangeShapes Go.WideShapes Go.ChangeAt Go.RowKit Go.Maps Go.Shelf
set_option linter.unusedVariables false
set_option linter.unusedSimpArgs false

theorem gES : Tryd.prog.globalNamed "strconv.ErrSyntax" = some 2 := by kernel_rfl
theorem gER : Tryd.prog.globalNamed "strconv.ErrRange" = some 3 := by kernel_rfl
theorem gESType : (Tryd.prog.globals[2]?).map (·.type) = some 55 := by kernel_rfl
theorem gERType : (Tryd.prog.globals[3]?).map (·.type) = some 55 := by kernel_rfl
theorem cellsE : Tryd.prog.cellsOf 104 = 1 := by kernel_rfl
theorem cellsS : Tryd.prog.cellsOf 9 = 1 := by kernel_rfl
theorem star : "*" ++ "errors.errorString" = "*errors.errorString" := by decide
theorem rowE (u : TypeId) (h : Tryd.prog.typeName? 3 u = some "*errors.errorString") : u = 102 :=
  typeName_ptr_named (nm := "errors.errorString") (by rw [star]; kernel_rfl) (by kernel_rfl) (by decide) u (by rw [star]; exact h)
theorem vs_of {W : World} (hL : laidMetH Tryd.prog Rows.seatsTextsRow.laid W) : Vr W := by
  have h : laidMet Tryd.prog Rows.seatsTextsRow.laid W := hL
  have htb : Tb W := tb_of h
  have h2 := h.tail.tail.tail
  obtain ⟨a0, s0, hv0, -, -, -⟩ := laid_sentinel h2 gER gERType Tryd.underlying55 rowE Tryd.underlying102 Tryd.underlying104 rfl rfl Tryd.underlying9 cellsE cellsS
  obtain ⟨a1, s1, hv1, -, -, -⟩ := laid_sentinel h2.tail gES gESType Tryd.underlying55 rowE Tryd.underlying102 Tryd.underlying104 rfl rfl Tryd.underlying9 cellsE cellsS
  exact ⟨htb, ⟨_, _, by have h0 := World.var?_cell gES hv1 0; simpa using h0⟩, ⟨_, _, by have h0 := World.var?_cell gER hv0 0; simpa using h0⟩⟩
theorem hx_inj {u s : Nat} (hu : u < 18446744073709551616) (hs : s < 18446744073709551616) (h : hx u = hx s) : u = s := by
  have hlen : ∀ x, (hx x).data.toList.length = 16 := fun x => by
    have h1 : (hx x).data.toList.length = (hx x).size := by show (hx x).data.toList.length = (hx x).data.size; exact Array.length_toList
    rw [h1, hx_size]
  have all : ∀ k, k ≤ 16 → u / 16 ^ (16 - k) = s / 16 ^ (16 - k) := by
    intro k
    induction k with
    | zero => intro _; rw [Nat.div_eq_of_lt hu, Nat.div_eq_of_lt hs]
    | succ k ih =>
      intro hk
      have h1 := ih (by omega)
      have hc : (hx u).data.toList[k]? = some ((hx u).data.toList[k]'(by rw [hlen]; omega)) := List.getElem?_eq_getElem _
      have d1 := hx_byte rfl (by omega) hc
      have d2 := hx_byte h (by omega) hc
      have d3 := dg_inj (by omega) (by omega) (d1.symm.trans d2)
      have e1 : ∀ x : Nat, x / 16 ^ (16 - k) = x / 16 ^ (15 - k) / 16 := fun x => by rw [show 16 - k = (15 - k) + 1 by omega, Nat.pow_succ, Nat.div_div_eq_div_mul]
      rw [e1, e1] at h1
      rw [show 16 - (k + 1) = 15 - k by omega]
      omega
  have := all 16 (by omega)
  simpa using this
set_option maxRecDepth 100000 in
set_option maxHeartbeats 4000000 in
theorem walk (a0 : Int) (t : ByteArray) (w0 : (Lit.int .u64 a0).wf = true) (hl : t.size ≤ 140737488351232) (w : World) (hv : Vr w) :
    Calls Tryd.prog 8 #[.int .u64 a0, .string t] w fun e w' => e = .returned (.bool true) ∧ Below w.heap.size w w' := by
  obtain ⟨s, rfl, hs⟩ := u64_wf w0
  clear w0
  have c2 := fun (W : World) (h : Tb W) => hex_any s hs W h
  have c3 := rHex_any s hs
  go_enter Tryd.func8, Tryd.ntmps8
  go_wp2_with fail
  refine (lives_any w hv.tb).mono ?_
  rintro e w1 ⟨rfl, hb1⟩
  have hv1 := hv.later hb1
  go_wp2_with fail
  refine (c2 _ hv1.tb).mono ?_
  rintro e w2 ⟨rfl, hb2⟩
  have hx2 := hb1.trans (hb2.mono hb1.size)
  have hv2 := hv.later hx2
  go_wp2_with fail
  refine (c3 _).mono ?_
  rintro e w3 ⟨rfl, rfl⟩
  clear c3
  go_wp2_with fail
  refine (parse_any t hl _ hv2).mono ?_
  rintro e w4 ⟨hP, hb4⟩
  have hx4 := hx2.trans (hb4.mono hx2.size)
  rcases hP with ⟨u, hu, rfl, rfl⟩ | ⟨hno, rfl⟩
  · go_wp2_with fail
    refine (rParse_any (hx u) hl w4).mono ?_
    rintro e w5 ⟨hP, hb5⟩
    have hx5 := hx4.trans (hb5.mono hx4.size)
    have hv5 := hv.later hx5
    obtain ⟨u2, hu2, he2, rfl⟩ : ∃ u2 : Nat, u2 < 18446744073709551616 ∧ hx u = hx u2 ∧ e = .returned (.tuple #[.int .u64 (u2 : Int), .int .i64 0]) := by
      rcases hP with hP | ⟨hno, _⟩
      · exact hP
      · exact absurd rfl (hno u hu)
    obtain rfl := hx_inj hu hu2 he2
    clear hP he2 hu2
    have c4 := hex_any u hu w5 hv5.tb
    go_wp2_with fail
    refine c4.mono ?_
    rintro e w5b ⟨rfl, hb5b⟩
    have hx5 := hx5.trans (hb5b.mono hx5.size)
    have hv5 := hv.later hx5
    clear c4
    go_wp2_with fail
    refine (c2 _ hv5.tb).mono ?_
    rintro e w6 ⟨rfl, hb6⟩
    have hv6 := hv5.later hb6
    go_wp2_with fail
    refine (parse_any (hx s) (by rw [hx_size]; omega) w6 hv6).mono ?_
    rintro e w7 ⟨hP, hb7⟩
    have hx7 := hx5.trans ((hb6.trans (hb7.mono hb6.size)).mono hx5.size)
    obtain ⟨u2, hu2, he2, rfl⟩ : ∃ u2 : Nat, u2 < 18446744073709551616 ∧ hx s = hx u2 ∧ e = .returned (.tuple #[.int .u64 (u2 : Int), .int .i64 0]) := by
      rcases hP with hP | ⟨hno, _⟩
      · exact hP
      · exact absurd rfl (hno s hs)
    obtain rfl := hx_inj hs hu2 he2
    clear c2 hP
    go_wp2_with fail
    go_ret
    exact ⟨rfl, hx7⟩
  · have HNO : Hid (∀ u, u < 18446744073709551616 → t ≠ hx u) := hno
    clear hno
    go_wp2_with fail
    refine (rParse_any t hl w4).mono ?_
    rintro e w5 ⟨hP, hb5⟩
    have hx5 := hx4.trans (hb5.mono hx4.size)
    have hv5 := hv.later hx5
    obtain rfl : e = .returned (.tuple #[.int .u64 0, .int .i64 25]) := by
      rcases hP with ⟨u, hu, he, _⟩ | ⟨_, he⟩
      · exact absurd he (HNO.out u hu)
      · exact he
    clear hP
    go_wp2_with fail
    refine (c2 _ hv5.tb).mono ?_
    rintro e w6 ⟨rfl, hb6⟩
    have hv6 := hv5.later hb6
    go_wp2_with fail
    refine (parse_any (hx s) (by rw [hx_size]; omega) w6 hv6).mono ?_
    rintro e w7 ⟨hP, hb7⟩
    have hx7 := hx5.trans ((hb6.trans (hb7.mono hb6.size)).mono hx5.size)
    obtain ⟨u2, hu2, he2, rfl⟩ : ∃ u2 : Nat, u2 < 18446744073709551616 ∧ hx s = hx u2 ∧ e = .returned (.tuple #[.int .u64 (u2 : Int), .int .i64 0]) := by
      rcases hP with hP | ⟨hno, _⟩
      · exact hP
      · exact absurd rfl (hno s hs)
    obtain rfl := hx_inj hs hu2 he2
    clear c2 hP
    go_wp2_with fail
    go_ret
    exact ⟨rfl, hx7⟩
theorem own : ownKnob Tryd.prog.godebug = none := by kernel_rfl
theorem laidOut : laidOutB Tryd.prog = true := by kernel_rfl
theorem text_reach {s : ByteArray} (h : s.data.toList.length ≤ reachBytes) : s.size ≤ 140737488351232 := by
  have e2 : s.data.toList.length = s.data.size := Array.length_toList
  have e1 : s.size = s.data.size := rfl
  unfold reachBytes at h
  omega
theorem contract (H : Type) (enc : TypeId × Value → H) (W : World) (base : Nat) (args : Array Value) (ds gs : List (DataW H)) (before : List MemPlace)
    (hval : ∀ (j : Nat) t v, Tryd.f8.params[j]? = some t → args[j]? = some v → Value.okWide Tryd.prog W .any base t v)
    (hW : DataW.Whole enc Tryd.prog Tryd.f8.params.toList Rows.seatsTextsSpec.vars false W args.toList ds gs before)
    (hsz : (DataW.weightsEach Tryd.prog (Tryd.f8.params.toList ++ Rows.seatsTextsSpec.plain.varTypes Tryd.prog) (ds ++ gs)).all (· ≤ reachBytes) = true)
    (hL : laidMetH Tryd.prog Rows.seatsTextsRow.laid W) :
    Calls Tryd.prog 8 args W fun e W' => ∃ v, e = .returned v ∧ Rows.seatsTextsSpec.post enc Tryd.prog Tryd.f8 false true false false W args v W' := by
  have hv := vs_of hL
  have hW' := hW
  obtain ⟨p, q, hA0, hV, rfl, hfz, hnd⟩ := hW
  have hA : DataW.TrodAll enc Tryd.prog W 0 (fun _ => true) true Tryd.f8.params.toList args.toList ds p := hA0
  rw [Tryd.params8] at hA hval hsz
  obtain ⟨v0, vs0, d0, ds0, p0, q0, hargs, rfl, rfl, h0, r0⟩ := trodAll_cons hA
  obtain ⟨v1, vs1, d1, ds1, p1, q1, rfl, rfl, rfl, h1, r1⟩ := trodAll_cons r0
  obtain ⟨rfl, rfl, rfl⟩ := trodAll_nil r1
  obtain rfl : args = #[v0, v1] := by cases args; simp_all
  obtain ⟨rfl, rfl⟩ := trodVars_none hV
  obtain ⟨a0, rfl, rfl, rfl, w0⟩ := open_int Tryd.underlying22 (hval 0 22 v0 rfl rfl) h0
  obtain ⟨s1, rfl, rfl, rfl, hs1⟩ := Go.ChangeMaps.open_string Tryd.underlying9 (hval 1 9 v1 rfl rfl) h1
  have hl1 : s1.size ≤ 140737488351232 := text_reach (sized_string hsz (j := 1) (t := 9) rfl rfl)
  clear hA0
  refine (walk a0 s1 w0 hl1 W hv).mono fun e W' ⟨he, bel⟩ => ?_
  subst he
  exact ⟨_, rfl, _, _, _, [], _, [], hW', trodAll_mk1 (shut_bool Tryd.underlying4 _), (trodAll_cons_mk (shut_int Tryd.underlying22 w0) (trodAll_cons_mk (Go.ChangeMaps.shut_string Tryd.underlying9 hs1) trodAll_mk0)), rfl, bel.frame _, fun h => by cases h⟩
set_option maxRecDepth 100000 in
theorem laid_met (os : Os) : laidMet Tryd.prog Rows.seatsTextsRow.laid ((laidWorld os).forCall (fun _ _ => 0) ⟨#[], #[.int .u64 0, .string ⟨#[]⟩], []⟩).memory :=
  laidMet_of_run' 8 (by kernel_rfl) (by kernel_rfl)
set_option maxRecDepth 100000 in
theorem reads (os : Os) {H : Type} (enc : TypeId × Value → H) : ∃ places, DataW.whole enc Tryd.prog ((laidWorld os).forCall (fun _ _ => 0) ⟨#[], #[.int .u64 0, .string ⟨#[]⟩], []⟩).memory Tryd.f8.params.toList Rows.seatsTextsSpec.vars false (#[.int .u64 0, .string ⟨#[]⟩] : Array Value).toList 8 = some ([.lit (.int .u64 0), .lit (.string [])], [], places) :=
  ⟨[], by kernel_rfl⟩
set_option maxRecDepth 100000 in
theorem lifted (os : Os) (started : os.Started) (H : Type) (enc : TypeId × Value → H) (F : Stop.Interp) :
    ReturnsInHanded {} Tryd.checked os 8 .any ((OpenSpec.ofChange Rows.seatsTextsSpec).preRow enc Tryd.prog Tryd.f8 Rows.seatsTextsRow.domain false Rows.seatsTextsRow.laid) (((OpenSpec.ofChange Rows.seatsTextsSpec).at F).post enc Tryd.prog Tryd.f8 false true false false) := by
  obtain ⟨places, hx⟩ := reads os enc
  refine returnsInHanded_of_row (C := Tryd.checked) (s := (OpenSpec.ofChange Rows.seatsTextsSpec)) own started (by kernel_rfl) Tryd.func8
    (witness_row_at (enc := enc) (C := Tryd.checked) false (laidWorld os) #[.int .u64 0, .string ⟨#[]⟩] rfl (by kernel_rfl) (by kernel_rfl) (by kernel_rfl)
      (OpenSpec.preRow_of_cond 8 hx (by kernel_rfl) (fun k hk => by cases hk) (by kernel_rfl) (laid_met os))) ?_
  intro W base args ds gs before hval hW hc1 hc2 hsz hL hsh _
  exact contract H enc W base args ds gs before hval hW hsz hL
theorem said : Rows.SeatsTextsSaid :=
  OpenClaim.holds_of_cond 8 Tryd.f8 rfl rfl rfl rfl rfl rfl rfl ⟨rfl, rfl, rfl, rfl, rfl⟩ rfl rfl rfl rfl rfl (by kernel_rfl) Tryd.func8 (by kernel_rfl)
    (of_decide_eq_true (by kernel_rfl)) (by unfold Func.isWrapper; first | (rw [if_pos (by decide +kernel)]; kernel_rfl) | (rw [if_neg (by decide +kernel)]; exact ⟨rfl, rfl⟩))
    (fun os started H enc _ F => by rw [OpenClaim.pre_eq_preRow]; exact lifted os started H enc F)
theorem plain (f : FuncId) (fn : Func) (hf : Tryd.pinned.checked.prog.funcNamed "coterie/coterielaw08.SeatsTexts" = some f) (hfn : Tryd.pinned.checked.prog.funcs[f]? = some fn) :
    true = Tryd.pinned.checked.prog.looks [] ∧ ∀ (j : Nat) t, fn.params[j]? = some t → Tryd.pinned.checked.prog.wantsStandIn t = false := by
  obtain rfl : f = 8 := Option.some.inj ((show Tryd.prog.funcNamed "coterie/coterielaw08.SeatsTexts" = some 8 by kernel_rfl).symm.trans hf) |>.symm
  obtain rfl : fn = Tryd.f8 := (Option.some.inj (Tryd.func8.symm.trans hfn)).symm
  refine ⟨by kernel_rfl, fun j t ht => ?_⟩
  rw [Tryd.params8] at ht
  have h9 : Tryd.prog.wantsStandIn 9 = false := by kernel_rfl
  have h22 : Tryd.prog.wantsStandIn 22 = false := by kernel_rfl
  have hm := Array.mem_of_getElem? ht
  simp at hm
  rcases hm with rfl | rfl
  · exact h22
  · exact h9
end Go.Proofs.YtljbnhgcfmehoaaDoor.seatsTexts
namespace Go.Proofs.YtljbnhgcfmehoaaDoor
theorem seatsTexts_holds : Rows.SeatsTextsCardSaid :=
  Claim7.holds_tied_plain_at .later [] _ _ _ _ seatsTexts.said (fun _ h => by cases h) (by kernel_rfl) (fun _ h => by cases h) seatsTexts_row_tie rfl ⟨rfl, rfl⟩ (by kernel_rfl) rfl seatsTexts.plain (by kernel_rfl)
#print axioms seatsTexts_holds
end Go.Proofs.YtljbnhgcfmehoaaDoor
