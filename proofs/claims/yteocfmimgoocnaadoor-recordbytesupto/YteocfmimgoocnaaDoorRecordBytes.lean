/- For every record and every text, where what is handed in holds at most 1048576 values and letters: Write and Read of package record answer what the document says: RecordBytes, in its second form (the listed variable as the program's text lays it), and the card. -/
import Derived.Test.YteocfmimgoocnaaDoorCards
import Derived.Test.YteocfmimgoocnaaDoorTie
import Derived.Test.YteocfmimgoocnaaDoorRcJ4
import Derived.Test.YteocfmimgoocnaaDoorRcJ1
import Derived.Test.YteocfmimgoocnaaDoorRcJ3
import Derived.Test.YteocfmimgoocnaaDoorOpJ
import Derived.WalkKit
import Derived.ProofKit
import Derived.OpenShut
import Derived.Deep.DeepHandedRow
import Derived.Deep.DeepWitnessRowRef
import Derived.SizedLaws
namespace Go.Proofs.YteocfmimgoocnaaDoor.recordBytesUpto
open Go.ChangeShapes Go.WideShapes Go.ChangeAt Go.RowKit Go.Maps Go.Shelf
open Rs (RdI ps Tb tb_of laidWorld sized_agg i64s owns_later owns_slice)
open Rc
set_option linter.unusedVariables false
set_option linter.unusedSimpArgs false

theorem vs_of {W : World} (hL : laidMetH Tryd.prog Rows.recordBytesUptoRow.laid W) : Tb W := tb_of (show laidMet Tryd.prog Rows.recordBytesUptoRow.laid W from hL)
theorem qLv_len (T : List Bool) : (qLv T).length < 128 := by
  unfold qLv
  split
  · exact (rd_fit T).l1
  · simp
theorem qJn_len (T : List Bool) : (qJn T).length < 128 := by
  unfold qJn
  split
  · exact (rd_fit T).j1
  · simp
set_option maxRecDepth 100000 in
set_option maxHeartbeats 2000000 in
theorem walk (e f : Int) (aL aJ : Option Addr) (cL cJ : Nat) (L : List Int) (J : List (Int × Int)) (s : ByteArray) (w : World) (rL : RdI w aL L) (rJ : RdP w aJ J) (lL : L.length * 8 ≤ 140737488351232) (lJ : J.length * 16 ≤ 140737488351232) (hs : s.size ≤ 1048576) (hTb : Tb w) :
    Calls Tryd.prog 3 #[.agg #[.int .i64 e, .int .i64 f, .slice aL L.length cL, .slice aJ J.length cJ], .string s] w fun e w' => e = .returned (.bool true) ∧ Below w.heap.size w w' := by
  have h1 := RcAt.new w #[.int .i64 e, .int .i64 f, .slice aL L.length cL, .slice aJ J.length cJ]
  have hB := below_alloc w (.cells #[.int .i64 e, .int .i64 f, .slice aL L.length cL, .slice aJ J.length cJ] 25)
  have hl := lives_any _ (hTb.later hB)
  have HW1 : Hid (∀ W, Below w.heap.size w W → Calls Tryd.prog 6 #[.agg #[.int .i64 e, .int .i64 f, .slice aL L.length cL, .slice aJ J.length cJ] ] W fun r w' => r = .returned (.tuple #[.string (wrS e f L J), .int .i64 (wrE e f L J)]) ∧ Below W.heap.size W w') := fun W hW => write_any e f aL aJ cL cJ L J W (rL.later hW) (rJ.later hW)
  have HW2 : Hid (∀ W, Below w.heap.size w W → Calls Tryd.prog 7 #[.agg #[.int .i64 e, .int .i64 f, .slice aL L.length cL, .slice aJ J.length cJ] ] W fun r w' => r = .returned (.tuple #[.string (wrS e f L J), .int .i64 (wrE e f L J)]) ∧ Below W.heap.size W w') := fun W hW => rWrite_any e f aL aJ cL cJ L J W (rL.later hW) (rJ.later hW)
  have HR1 : Hid (∀ W, Calls Tryd.prog 8 #[.string s] W fun r w' => RdRec W w' (Bt.tb (Bt.bys s)) r) := fun W => read_any s W (by omega)
  have HR2 : Hid (∀ W, Calls Tryd.prog 9 #[.string s] W fun r w' => RdRec W w' (Bt.tb (Bt.bys s)) r) := fun W => rRead_any s W (by omega)
  obtain ⟨T, hT⟩ : ∃ T, Bt.tb (Bt.bys s) = T := ⟨_, rfl⟩
  rw [hT] at HR1 HR2
  obtain ⟨t, ht⟩ : ∃ t, wrS e f L J = t := ⟨_, rfl⟩
  obtain ⟨x, hx⟩ : ∃ t, wrE e f L J = t := ⟨_, rfl⟩
  rw [ht, hx] at HW1 HW2
  clear ht hx hT rL rJ hTb
  generalize L.length = nL at *
  generalize J.length = nJ at *
  go_enter Tryd.func3, Tryd.ntmps3
  go_upto_region 1 with (fail)
  generalize w.alloc (.cells #[.int .i64 e, .int .i64 f, .slice aL nL cL, .slice aJ nJ cJ] 25) = w0 at *
  obtain ⟨B, hBq⟩ : ∃ B, w.heap.size = B := ⟨_, rfl⟩
  rw [hBq] at h1 ⊢
  clear hBq
  go_wp2_with fail
  refine hl.mono ?_
  rintro r w1 ⟨rfl, hb1⟩
  have HB1 : Hid (Below w.heap.size w w1) := hB.trans (hb1.mono hB.size)
  have hc1 := h1.later hb1
  obtain ⟨c0, c1, c2, c3⟩ := hc1.cells
  have hw1 := HW1.out w1 HB1.out
  clear hl h1 hb1 hB
  go_wp2_with fail
  refine hw1.mono ?_
  rintro r w2 ⟨rfl, hb2⟩
  have HB2 : Hid (Below w.heap.size w w2) := HB1.out.trans (hb2.mono HB1.out.size)
  have hc2 := hc1.later hb2
  clear c0 c1 c2 c3 hw1
  obtain ⟨c0, c1, c2, c3⟩ := hc2.cells
  have hw2 := HW2.out w2 HB2.out
  clear hc1 hb2
  go_wp2_with fail
  refine hw2.mono ?_
  rintro r w3 ⟨rfl, hb3⟩
  have HB3 : Hid (Below w.heap.size w w3) := HB2.out.trans (hb3.mono HB2.out.size)
  have hr1 := HR1.out w3
  clear c0 c1 c2 c3 hw2 hc2 hb3
  go_wp2_with fail
  refine hr1.mono ?_
  rintro r w4 ⟨vL, vJ, rfl, hl4, hj4, hb4⟩
  obtain ⟨a4, k4, rfl⟩ := owns_slice hl4
  obtain ⟨b4, m4, rfl⟩ := owns_slice hj4
  have HB4 : Hid (Below w.heap.size w w4) := HB3.out.trans (hb4.mono HB3.out.size)
  have hx4 := RcAt.new w4 #[.int .i64 (qEp T), .int .i64 (qFr T), .slice a4 (qLv T).length k4, .slice b4 (qJn T).length m4]
  have hbx := below_alloc w4 (.cells #[.int .i64 (qEp T), .int .i64 (qFr T), .slice a4 (qLv T).length k4, .slice b4 (qJn T).length m4] 25)
  have rl4 := (rdI_of hl4).later hbx
  have rj4 := (rdP_of hj4).later hbx
  have HB5 : Hid (Below w.heap.size w (w4.alloc (.cells #[.int .i64 (qEp T), .int .i64 (qFr T), .slice a4 (qLv T).length k4, .slice b4 (qJn T).length m4] 25))) := HB4.out.trans (hbx.mono HB4.out.size)
  clear hr1 hl4 hj4 hb4 hbx
  go_upto_region 8 with (fail)
  generalize w4.alloc (.cells #[.int .i64 (qEp T), .int .i64 (qFr T), .slice a4 (qLv T).length k4, .slice b4 (qJn T).length m4] 25) = w5 at *
  generalize w4.heap.size = A at *
  have hr2 := HR2.out w5
  go_wp2_with fail
  refine hr2.mono ?_
  rintro r w6 ⟨vL, vJ, rfl, hl6, hj6, hb6⟩
  obtain ⟨a6, k6, rfl⟩ := owns_slice hl6
  obtain ⟨b6, m6, rfl⟩ := owns_slice hj6
  have HB6 : Hid (Below w.heap.size w w6) := HB5.out.trans (hb6.mono HB5.out.size)
  have hbx := below_alloc w6 (.cells #[.int .i64 (qEp T), .int .i64 (qFr T), .slice a6 (qLv T).length k6, .slice b6 (qJn T).length m6] 25)
  have hy6 := RcAt.new w6 #[.int .i64 (qEp T), .int .i64 (qFr T), .slice a6 (qLv T).length k6, .slice b6 (qJn T).length m6]
  have hx6 := (hx4.later hb6).later hbx
  have hsm := sr2_any (qEp T) (qFr T) (qEp T) (qFr T) a4 b4 a6 b6 k4 m4 k6 m6 (qLv T) (qLv T) (qJn T) (qJn T) _ (by have := qLv_len T; omega) (by have := qLv_len T; omega) (by have := qJn_len T; omega) (by have := qJn_len T; omega) ((rl4.later hb6).later hbx) ((rj4.later hb6).later hbx) ((rdI_of hl6).later hbx) ((rdP_of hj6).later hbx)
  rw [sam_refl] at hsm
  have HB7 : Hid (Below w.heap.size w (w6.alloc (.cells #[.int .i64 (qEp T), .int .i64 (qFr T), .slice a6 (qLv T).length k6, .slice b6 (qJn T).length m6] 25))) := HB6.out.trans (hbx.mono HB6.out.size)
  clear hr2 hl6 hj6 hb6 hbx hx4 rl4 rj4
  go_upto_region 9 with (fail)
  generalize w6.alloc (.cells #[.int .i64 (qEp T), .int .i64 (qFr T), .slice a6 (qLv T).length k6, .slice b6 (qJn T).length m6] 25) = w7 at *
  generalize w6.heap.size = A' at *
  obtain ⟨c0, c1, c2, c3⟩ := hx6.cells
  obtain ⟨d0, d1, d2, d3⟩ := hy6.cells
  clear hx6 hy6
  go_wp2_with fail
  refine hsm.mono ?_
  rintro r w8 ⟨rfl, hb8⟩
  clear hsm c0 c1 c2 c3 d0 d1 d2 d3
  go_wp2_with fail
  go_ret
  exact ⟨rfl, HB7.out.trans (hb8.mono HB7.out.size)⟩
theorem own : ownKnob Tryd.prog.godebug = none := by kernel_rfl
theorem laidOut : laidOutB Tryd.prog = true := by kernel_rfl
theorem text_reach {s : ByteArray} (h : s.data.toList.length ≤ reachBytes) : s.size ≤ 140737488351232 := by
  have e2 : s.data.toList.length = s.data.size := Array.length_toList
  have e1 : s.size = s.data.size := rfl
  unfold reachBytes at h
  omega
set_option maxRecDepth 20000 in
theorem contract (H : Type) (enc : TypeId × Value → H) (W : World) (base : Nat) (args : Array Value) (ds gs : List (DataW H)) (before : List MemPlace)
    (hval : ∀ (j : Nat) t v, Tryd.f3.params[j]? = some t → args[j]? = some v → Value.okWide Tryd.prog W .any base t v)
    (hW : DataW.Whole enc Tryd.prog Tryd.f3.params.toList Rows.recordBytesSpec.vars false W args.toList ds gs before)
    (hsz : (DataW.weightsEach Tryd.prog (Tryd.f3.params.toList ++ Rows.recordBytesSpec.plain.varTypes Tryd.prog) (ds ++ gs)).all (· ≤ reachBytes) = true)
    (hc : Rows.uptoSmall H (ds ++ gs) = true)
    (hL : laidMetH Tryd.prog Rows.recordBytesUptoRow.laid W) :
    Calls Tryd.prog 3 args W fun e W' => ∃ v, e = .returned v ∧ Rows.recordBytesSpec.post enc Tryd.prog Tryd.f3 false true false false W args v W' := by
  have hv := vs_of hL
  have hW' := hW
  obtain ⟨p, q, hA0, hV, rfl, hfz, hnd⟩ := hW
  have hA : DataW.TrodAll enc Tryd.prog W 0 (fun _ => true) true Tryd.f3.params.toList args.toList ds p := hA0
  rw [Tryd.params3] at hA hval hsz
  obtain ⟨v0, vs0, d0, ds0, p0, q0, hargs, rfl, rfl, h0, r0⟩ := trodAll_cons hA
  obtain ⟨v1, vs1, d1, ds1, p1, q1, rfl, rfl, rfl, h1, r1⟩ := trodAll_cons r0
  obtain ⟨rfl, rfl, rfl⟩ := trodAll_nil r1
  obtain rfl : args = #[v0, v1] := by cases args; simp_all
  obtain ⟨rfl, rfl⟩ := trodVars_none hV
  have hbk : Rows.uptoBulkAll ([d0, d1] ++ ([] : List (DataW H))) ≤ 1048576 := of_decide_eq_true hc
  simp only [List.cons_append, List.append_nil, List.nil_append, Rows.uptoBulkAll] at hbk
  have k0 := h0
  have lt0 : ∀ x ∈ p0, x.block < W.heap.size := by obtain ⟨m, hm⟩ := k0; exact DataW.trod_lt m _ _ _ hm
  obtain ⟨e0, f0, aL0, aJ0, cL0, cJ0, L0, J0, rfl, rL0, rJ0, lL0, lJ0⟩ := open_rc (fun parts e => sized_agg hsz (j := 0) (t := 25) rfl (by rw [← e]; rfl) Tryd.underlying25) (hval 0 25 v0 rfl rfl) h0
  obtain ⟨s1, rfl, rfl, rfl, hs1⟩ := Go.ChangeMaps.open_string Tryd.underlying9 (hval 1 9 v1 rfl rfl) h1
  have hl1 : s1.size ≤ 1048576 := by have h2 := hbk; simp only [Rows.uptoBulk] at h2; have e2 : s1.data.toList.length = s1.data.size := Array.length_toList; have e1 : s1.size = s1.data.size := rfl; omega
  clear hA0
  refine (walk e0 f0 aL0 aJ0 cL0 cJ0 L0 J0 s1 W rL0 rJ0 lL0 lJ0 hl1 hv).mono fun e W' ⟨he, bel⟩ => ?_
  subst he
  exact ⟨_, rfl, _, _, _, [], _, [], hW', trodAll_mk1 (shut_bool Tryd.underlying4 _), (trodAll_cons_mk (Below.trod laidOut (by kernel_rfl) (of_decide_eq_true (by kernel_rfl)) k0 bel lt0) (trodAll_cons_mk (Go.ChangeMaps.shut_string Tryd.underlying9 hs1) trodAll_mk0)), rfl, bel.frame _, fun h => by cases h⟩
set_option maxRecDepth 100000 in
theorem laid_met (os : Os) : laidMet Tryd.prog Rows.recordBytesUptoRow.laid ((laidWorld os).forCall (fun _ _ => 0) ⟨#[], #[.agg #[.int .i64 0, .int .i64 0, .slice none 0 0, .slice none 0 0], .string ⟨#[]⟩], []⟩).memory :=
  laidMet_of_run' 8 (by kernel_rfl) (by kernel_rfl)
set_option maxRecDepth 100000 in
theorem reads (os : Os) {H : Type} (enc : TypeId × Value → H) : ∃ places, DataW.whole enc Tryd.prog ((laidWorld os).forCall (fun _ _ => 0) ⟨#[], #[.agg #[.int .i64 0, .int .i64 0, .slice none 0 0, .slice none 0 0], .string ⟨#[]⟩], []⟩).memory Tryd.f3.params.toList Rows.recordBytesSpec.vars false (#[.agg #[.int .i64 0, .int .i64 0, .slice none 0 0, .slice none 0 0], .string ⟨#[]⟩] : Array Value).toList 8 = some ([.agg [.lit (.int .i64 0), .lit (.int .i64 0), .nil, .nil], .lit (.string [])], [], places) :=
  ⟨[], by kernel_rfl⟩
set_option maxRecDepth 100000 in
theorem lifted (os : Os) (started : os.Started) (H : Type) (enc : TypeId × Value → H) (F : Stop.Interp) :
    ReturnsInHanded {} Tryd.checked os 3 .any ((Rows.OpenSpec.upto Rows.recordBytesSpec).preRow enc Tryd.prog Tryd.f3 Rows.recordBytesUptoRow.domain false Rows.recordBytesUptoRow.laid) (((Rows.OpenSpec.upto Rows.recordBytesSpec).at F).post enc Tryd.prog Tryd.f3 false true false false) := by
  obtain ⟨places, hx⟩ := reads os enc
  refine returnsInHanded_of_row (C := Tryd.checked) (s := (Rows.OpenSpec.upto Rows.recordBytesSpec)) own started (by kernel_rfl) Tryd.func3
    (witness_row_at (enc := enc) (C := Tryd.checked) false (laidWorld os) #[.agg #[.int .i64 0, .int .i64 0, .slice none 0 0, .slice none 0 0], .string ⟨#[]⟩] rfl (by kernel_rfl) (by kernel_rfl) (by kernel_rfl)
      (OpenSpec.preRow_of_cond 8 hx (by kernel_rfl) (fun k hk => by cases hk; first | rfl | decide +kernel) (by kernel_rfl) (laid_met os))) ?_
  intro W base args ds gs before hval hW hc1 hc2 hsz hL hsh _
  exact contract H enc W base args ds gs before hval hW hsz (hc2 _ rfl) hL
theorem said : Rows.RecordBytesUptoSaid :=
  OpenClaim.holds_of_cond 3 Tryd.f3 rfl rfl rfl rfl rfl rfl rfl ⟨rfl, rfl, rfl, rfl, rfl⟩ rfl rfl rfl rfl rfl (by kernel_rfl) Tryd.func3 (by kernel_rfl)
    (of_decide_eq_true (by kernel_rfl)) (by unfold Func.isWrapper; first | (rw [if_pos (by decide +kernel)]; kernel_rfl) | (rw [if_neg (by decide +kernel)]; exact ⟨rfl, rfl⟩))
    (fun os started H enc _ F => by rw [OpenClaim.pre_eq_preRow]; exact lifted os started H enc F)
theorem plain (f : FuncId) (fn : Func) (hf : Tryd.pinned.checked.prog.funcNamed "coterie/coterielaw13.RecordBytes" = some f) (hfn : Tryd.pinned.checked.prog.funcs[f]? = some fn) :
    false = Tryd.pinned.checked.prog.looks [] ∧ ∀ (j : Nat) t, fn.params[j]? = some t → Tryd.pinned.checked.prog.wantsStandIn t = false := by
  obtain rfl : f = 3 := Option.some.inj ((show Tryd.prog.funcNamed "coterie/coterielaw13.RecordBytes" = some 3 by kernel_rfl).symm.trans hf) |>.symm
  obtain rfl : fn = Tryd.f3 := (Option.some.inj (Tryd.func3.symm.trans hfn)).symm
  refine ⟨by kernel_rfl, fun j t ht => ?_⟩
  rw [Tryd.params3] at ht
  have h9 : Tryd.prog.wantsStandIn 9 = false := by kernel_rfl
  have h25 : Tryd.prog.wantsStandIn 25 = false := by kernel_rfl
  have hm := Array.mem_of_getElem? ht
  simp at hm
  rcases hm with rfl | rfl
  · exact h25
  · exact h9
end Go.Proofs.YteocfmimgoocnaaDoor.recordBytesUpto
namespace Go.Proofs.YteocfmimgoocnaaDoor
theorem recordBytesUpto_holds : Rows.RecordBytesUptoCardSaid :=
  Claim7.holds_tied_plain_at .later [] _ _ _ _ recordBytesUpto.said (fun _ h => by cases h) (by kernel_rfl) (fun _ h => by cases h) recordBytesUpto_row_tie rfl ⟨rfl, rfl⟩ (by kernel_rfl) rfl recordBytesUpto.plain (by kernel_rfl)
#print axioms recordBytesUpto_holds
end Go.Proofs.YteocfmimgoocnaaDoor
