/- For every record and every text: what package record writes is read again, what is read was written so, nothing longer and nothing shorter is taken: RecordBack, in its first form (the listed variable as the program's text lays it), and the card. -/
import Derived.Test.YteocfmimgoocnaaDoorCards
import Derived.Test.YteocfmimgoocnaaDoorTie
import Derived.Test.YteocfmimgoocnaaDoorRcH
import Derived.Test.YteocfmimgoocnaaDoorRcJ2
import Derived.Test.YteocfmimgoocnaaDoorRcJ1
import Derived.Test.YteocfmimgoocnaaDoorRcJ3
import Derived.Test.YteocfmimgoocnaaDoorOpJ
import Derived.Laws.Concat
import Derived.WalkKit
import Derived.ProofKit
import Derived.OpenShut
import Derived.Deep.DeepHandedRow
import Derived.Deep.DeepWitnessRowRef
import Derived.SizedLaws
namespace Go.Proofs.YteocfmimgoocnaaDoor.recordBack
open Go.ChangeShapes Go.WideShapes Go.ChangeAt Go.RowKit Go.Maps Go.Shelf
open Rs (RdI ps Tb tb_of laidWorld sized_agg i64s owns_later owns_slice)
open Rc
set_option linter.unusedVariables false
set_option linter.unusedSimpArgs false

theorem vs_of {W : World} (hL : laidMetH Tryd.prog Rows.recordBackRow.laid W) : Tb W := tb_of (show laidMet Tryd.prog Rows.recordBackRow.laid W from hL)
theorem qLv_len (T : List Bool) : (qLv T).length < 128 := by
  unfold qLv
  split
  · exact (rd_fit T).l1
  · simp
theorem qJn_len (T : List Bool) : (qJn T).length < 128 := by
  unfold qJn
  split
  · exact (rd_fit T).j1
  · simp
theorem qs_ok {T : List Bool} (h : okR T = true) : qEp T = rEp T ∧ qFr T = rFr T ∧ qLv T = rLv T ∧ qJn T = rJn T ∧ rdE T = 0 := by
  unfold qEp qFr qLv qJn rdE
  rw [h]
  exact ⟨rfl, rfl, rfl, rfl, rfl⟩
theorem qs_no {T : List Bool} (h : okR T = false) : qEp T = 0 ∧ qFr T = 0 ∧ qLv T = [] ∧ qJn T = [] ∧ rdE T = 12 := by
  unfold qEp qFr qLv qJn rdE
  rw [h]
  exact ⟨rfl, rfl, rfl, rfl, rfl⟩
/- Read, where it answers a record, and where it doesn't. -/
theorem read_ok (s : ByteArray) (w : World) (hs : s.size < 1125899906842624) {e f : Int} {L : List Int} {J : List (Int × Int)} (h : okR (Bt.tb (Bt.bys s)) = true) (h1 : rEp (Bt.tb (Bt.bys s)) = e) (h2 : rFr (Bt.tb (Bt.bys s)) = f) (h3 : rLv (Bt.tb (Bt.bys s)) = L) (h4 : rJn (Bt.tb (Bt.bys s)) = J) :
    Calls Tryd.prog 8 #[.string s] w fun r w' => ∃ a b k m, r = .returned (.tuple #[.agg #[.int .i64 e, .int .i64 f, .slice a L.length k, .slice b J.length m], .int .i64 0]) ∧ RdI w' a L ∧ RdP w' b J ∧ Below w.heap.size w w' := by
  refine (read_any s w hs).mono ?_
  rintro r w' ⟨vL, vJ, rfl, hl, hj, hb⟩
  obtain ⟨q1, q2, q3, q4, q5⟩ := qs_ok h
  rw [q3, h3] at hl
  rw [q4, h4] at hj
  rw [q1, q2, q5, h1, h2]
  obtain ⟨a, k, rfl⟩ := owns_slice hl
  obtain ⟨b, m, rfl⟩ := owns_slice hj
  exact ⟨a, b, k, m, rfl, rdI_of hl, rdP_of hj, hb⟩
theorem read_no (s : ByteArray) (w : World) (hs : s.size < 1125899906842624) (h : okR (Bt.tb (Bt.bys s)) = false) :
    Calls Tryd.prog 8 #[.string s] w fun r w' => ∃ a b k m, r = .returned (.tuple #[.agg #[.int .i64 0, .int .i64 0, .slice a 0 k, .slice b 0 m], .int .i64 12]) ∧ Below w.heap.size w w' := by
  refine (read_any s w hs).mono ?_
  rintro r w' ⟨vL, vJ, rfl, hl, hj, hb⟩
  obtain ⟨q1, q2, q3, q4, q5⟩ := qs_no h
  rw [q3] at hl
  rw [q4] at hj
  rw [q1, q2, q5]
  obtain ⟨a, k, rfl⟩ := owns_slice hl
  obtain ⟨b, m, rfl⟩ := owns_slice hj
  exact ⟨a, b, k, m, rfl, hb⟩
/- From Read(text) on. -/
theorem cut_last (s : ByteArray) (h : 0 < s.size) : ∃ z, s = s.extract 0 (s.size - 1) ++ z ∧ z.size = 1 := by
  refine ⟨s.extract (s.size - 1) s.size, ?_, ?_⟩
  · have : s.extract 0 (s.size - 1) ++ s.extract (s.size - 1) s.size = s.extract 0 s.size := by
      apply ByteArray.ext
      simp
    rw [this]
    simp
  · simp
    omega
set_option maxRecDepth 100000 in
set_option maxHeartbeats 2000000 in
theorem walk (e f : Int) (aL aJ : Option Addr) (cL cJ : Nat) (L : List Int) (J : List (Int × Int)) (s : ByteArray) (w : World) (rL : RdI w aL L) (rJ : RdP w aJ J) (lL : L.length * 8 ≤ 140737488351232) (lJ : J.length * 16 ≤ 140737488351232) (hs : s.size ≤ 140737488351232) (hTb : Tb w) :
    Calls Tryd.prog 4 #[.agg #[.int .i64 e, .int .i64 f, .slice aL L.length cL, .slice aJ J.length cJ], .string s] w fun e w' => e = .returned (.bool true) ∧ Below w.heap.size w w' := by
  have h1 := RcAt.new w #[.int .i64 e, .int .i64 f, .slice aL L.length cL, .slice aJ J.length cJ]
  have hB := below_alloc w (.cells #[.int .i64 e, .int .i64 f, .slice aL L.length cL, .slice aJ J.length cJ] 25)
  have hl := lives_any _ (hTb.later hB)
  have HSS : Hid (s.size < 1125899906842624) := by unfold Hid; omega
  have HW1 : Hid (∀ W, Below w.heap.size w W → Calls Tryd.prog 6 #[.agg #[.int .i64 e, .int .i64 f, .slice aL L.length cL, .slice aJ J.length cJ] ] W fun r w' => r = .returned (.tuple #[.string (wrS e f L J), .int .i64 (wrE e f L J)]) ∧ Below W.heap.size W w') := fun W hW => write_any e f aL aJ cL cJ L J W (rL.later hW) (rJ.later hW)
  have HRT : Hid (∀ W, Below w.heap.size w W → Calls Tryd.prog 11 #[.agg #[.int .i64 e, .int .i64 f, .slice aL L.length cL, .slice aJ J.length cJ] ] W fun r w' => r = .returned (.bool (rgt e f L J)) ∧ Below W.heap.size W w') := fun W hW => rRight_any e f aL aJ cL cJ L J W (rL.later hW) (rJ.later hW)
  have HRD : Hid (RdI w aL L ∧ RdP w aJ J) := ⟨rL, rJ⟩
  clear rL rJ hTb hs
  obtain ⟨nL, hnl⟩ : ∃ n, L.length = n := ⟨_, rfl⟩
  obtain ⟨nJ, hnj⟩ : ∃ n, J.length = n := ⟨_, rfl⟩
  have HNL : Hid (L.length = nL ∧ J.length = nJ) := ⟨hnl, hnj⟩
  simp only [hnl, hnj] at h1 hB hl HW1 HRT
  rw [hnl, hnj]
  clear hnl hnj
  go_enter Tryd.func4, Tryd.ntmps4
  go_upto_region 1 with (fail)
  generalize w.alloc (.cells #[.int .i64 e, .int .i64 f, .slice aL nL cL, .slice aJ nJ cJ] 25) = w0 at *
  obtain ⟨B, hBq⟩ : ∃ B, w.heap.size = B := ⟨_, rfl⟩
  rw [hBq] at h1 ⊢
  clear hBq
  go_wp2_with fail
  refine hl.mono ?_
  rintro r w1 ⟨rfl, hb1⟩
  have HB1 : Hid (Below w.heap.size w w1) := hB.trans (hb1.mono hB.size)
  have hc1 := h1.later hb1
  obtain ⟨c0, c1, c2, c3⟩ := hc1.cells
  have hw1 := HW1.out w1 HB1.out
  clear hl h1 hb1 hB
  cases hr : rgt e f L J with
  | false =>
    rw [show wrE e f L J = 12 by unfold wrE; rw [hr]; rfl] at hw1
    obtain ⟨t, ht⟩ : ∃ t, wrS e f L J = t := ⟨_, rfl⟩
    rw [ht] at hw1
    rw [hr] at HRT
    clear ht hr
    go_wp2_with fail
    refine hw1.mono ?_
    rintro r w2 ⟨rfl, hb2⟩
    have HB2 : Hid (Below w.heap.size w w2) := HB1.out.trans (hb2.mono HB1.out.size)
    have hc2 := hc1.later hb2
    clear c0 c1 c2 c3 hw1
    obtain ⟨c0, c1, c2, c3⟩ := hc2.cells
    have hrt := HRT.out w2 HB2.out
    clear hc1 hb2
    go_wp2_with fail
    refine hrt.mono ?_
    rintro r wE ⟨rfl, hb3⟩
    have HBE : Hid (Below w.heap.size w wE) := HB2.out.trans (hb3.mono HB2.out.size)
    clear c0 c1 c2 c3 hrt hc2 hb3
    cases hok : okR (Bt.tb (Bt.bys s)) with
    | false =>
      have hr := read_no s wE HSS.out hok
      clear hok
      go_wp2_with fail
      refine hr.mono ?_
      rintro r w20 ⟨a20, b20, k20, m20, rfl, hb20⟩
      have HB20 : Hid (Below w.heap.size w w20) := HBE.out.trans (hb20.mono HBE.out.size)
      have hbx := below_alloc w20 (.cells #[.int .i64 0, .int .i64 0, .slice a20 0 k20, .slice b20 0 m20] 25)
      have HB21 : Hid (Below w.heap.size w (w20.alloc (.cells #[.int .i64 0, .int .i64 0, .slice a20 0 k20, .slice b20 0 m20] 25))) := HB20.out.trans (hbx.mono HB20.out.size)
      have hx20 := RcAt.new w20 #[.int .i64 0, .int .i64 0, .slice a20 0 k20, .slice b20 0 m20]
      have hsm := sr2_any 0 0 0 0 a20 b20 none none k20 m20 0 0 [] [] [] [] (w20.alloc (.cells #[.int .i64 0, .int .i64 0, .slice a20 0 k20, .slice b20 0 m20] 25)) (by simp) (by simp) (by simp) (by simp) (Rs.RdI.nil _ _) (fun i hi => by cases hi) (Rs.RdI.nil _ _) (fun i hi => by cases hi)
      rw [sam_refl] at hsm
      simp only [List.length_nil] at hsm
      clear hr hb20 hbx HB20
      go_upto_region 15 with (fail)
      generalize w20.alloc (.cells #[.int .i64 0, .int .i64 0, .slice a20 0 k20, .slice b20 0 m20] 25) = w21 at *
      generalize w20.heap.size = A20 at *
      obtain ⟨x0, x1, x2, x3⟩ := hx20.cells
      clear hx20
      go_wp2_with fail
      refine hsm.mono ?_
      rintro r w22 ⟨rfl, hb22⟩
      clear hsm x0 x1 x2 x3
      go_wp2_with fail
      go_ret
      exact ⟨rfl, HB21.out.trans (hb22.mono HB21.out.size)⟩
    | true =>
      have HTX : Hid (rgt (rEp (Bt.tb (Bt.bys s))) (rFr (Bt.tb (Bt.bys s))) (rLv (Bt.tb (Bt.bys s))) (rJn (Bt.tb (Bt.bys s))) = true ∧ wrS (rEp (Bt.tb (Bt.bys s))) (rFr (Bt.tb (Bt.bys s))) (rLv (Bt.tb (Bt.bys s))) (rJn (Bt.tb (Bt.bys s))) = s) := okR_text hok
      have hr := read_ok s wE HSS.out hok rfl rfl rfl rfl
      clear hok
      generalize rEp (Bt.tb (Bt.bys s)) = e2 at *
      generalize rFr (Bt.tb (Bt.bys s)) = f2 at *
      generalize rLv (Bt.tb (Bt.bys s)) = L2 at *
      generalize rJn (Bt.tb (Bt.bys s)) = J2 at *
      go_wp2_with fail
      refine hr.mono ?_
      rintro r w20 ⟨a20, b20, k20, m20, rfl, rl20, rj20, hb20⟩
      have HB20 : Hid (Below w.heap.size w w20) := HBE.out.trans (hb20.mono HBE.out.size)
      have hbx := below_alloc w20 (.cells #[.int .i64 e2, .int .i64 f2, .slice a20 L2.length k20, .slice b20 J2.length m20] 25)
      have HB21 : Hid (Below w.heap.size w (w20.alloc (.cells #[.int .i64 e2, .int .i64 f2, .slice a20 L2.length k20, .slice b20 J2.length m20] 25))) := HB20.out.trans (hbx.mono HB20.out.size)
      have hx20 := RcAt.new w20 #[.int .i64 e2, .int .i64 f2, .slice a20 L2.length k20, .slice b20 J2.length m20]
      have hwt := write_any e2 f2 a20 b20 k20 m20 L2 J2 _ (rl20.later hbx) (rj20.later hbx)
      rw [HTX.out.2, show wrE e2 f2 L2 J2 = 0 by unfold wrE; rw [HTX.out.1]; rfl] at hwt
      clear hr hb20 hbx HB20 rl20 rj20
      generalize L2.length = nL2 at *
      generalize J2.length = nJ2 at *
      go_upto_region 15 with (fail)
      generalize w20.alloc (.cells #[.int .i64 e2, .int .i64 f2, .slice a20 nL2 k20, .slice b20 nJ2 m20] 25) = w21 at *
      generalize w20.heap.size = A20 at *
      obtain ⟨x0, x1, x2, x3⟩ := hx20.cells
      clear hx20
      go_wp2_with fail
      refine hwt.mono ?_
      rintro r w22 ⟨rfl, hb22⟩
      clear hwt x0 x1 x2 x3
      go_wp2_with fail
      go_ret
      exact ⟨rfl, HB21.out.trans (hb22.mono HB21.out.size)⟩
  | true =>
    have hT := wr_rd hr
    have HT0 : Hid (okR (Bt.tb (Bt.bys (wrS e f L J))) = true ∧ rEp (Bt.tb (Bt.bys (wrS e f L J))) = e ∧ rFr (Bt.tb (Bt.bys (wrS e f L J))) = f ∧ rLv (Bt.tb (Bt.bys (wrS e f L J))) = L ∧ rJn (Bt.tb (Bt.bys (wrS e f L J))) = J) := hT
    have hsz := wr_size hr
    rw [bits_flds] at hsz
    have hR := rgt_iff.1 hr
    have HSZ : Hid (5 ≤ (wrS e f L J).size ∧ (wrS e f L J).size < 1000) := by have := hR.l1; have := hR.j1; unfold Hid; omega
    have HMORE : Hid (okR (Bt.tb (Bt.bys (wrS e f L J ++ ⟨#[0]⟩))) = false) := wr_more hr ⟨#[0]⟩ rfl
    have HLESS : Hid (okR (Bt.tb (Bt.bys ((wrS e f L J).extract 0 ((wrS e f L J).size - 1)))) = false) := wr_less hr (cut_last _ (by omega))
    rw [show wrE e f L J = 0 by unfold wrE; rw [hr]; rfl] at hw1
    obtain ⟨t, ht⟩ : ∃ t, wrS e f L J = t := ⟨_, rfl⟩
    rw [ht] at hw1 HT0 HSZ HMORE HLESS
    rw [hr] at HRT
    clear ht hr hT hsz hR
    go_wp2_with fail
    refine hw1.mono ?_
    rintro r w2 ⟨rfl, hb2⟩
    have HB2 : Hid (Below w.heap.size w w2) := HB1.out.trans (hb2.mono HB1.out.size)
    have hc2 := hc1.later hb2
    clear c0 c1 c2 c3 hw1
    obtain ⟨c0, c1, c2, c3⟩ := hc2.cells
    have hrt := HRT.out w2 HB2.out
    clear hc1 hb2
    go_wp2_with fail
    refine hrt.mono ?_
    rintro r w3 ⟨rfl, hb3⟩
    have HB3 : Hid (Below w.heap.size w w3) := HB2.out.trans (hb3.mono HB2.out.size)
    have hc3 := hc2.later hb3
    clear c0 c1 c2 c3 hrt hc2 hb3
    have hrd := read_ok t w3 (by have := HSZ.out; omega) HT0.out.1 HT0.out.2.1 HT0.out.2.2.1 HT0.out.2.2.2.1 HT0.out.2.2.2.2
    rw [HNL.out.1, HNL.out.2] at hrd
    go_wp2_with fail
    refine hrd.mono ?_
    rintro r w4 ⟨a4, b4, k4, m4, rfl, rl4, rj4, hb4⟩
    have HB4 : Hid (Below w.heap.size w w4) := HB3.out.trans (hb4.mono HB3.out.size)
    have hbx := below_alloc w4 (.cells #[.int .i64 e, .int .i64 f, .slice a4 nL k4, .slice b4 nJ m4] 25)
    have HB5 : Hid (Below w.heap.size w (w4.alloc (.cells #[.int .i64 e, .int .i64 f, .slice a4 nL k4, .slice b4 nJ m4] 25))) := HB4.out.trans (hbx.mono HB4.out.size)
    have hx4 := RcAt.new w4 #[.int .i64 e, .int .i64 f, .slice a4 nL k4, .slice b4 nJ m4]
    have hc4 := (hc3.later hb4).later hbx
    have rl5 := rl4.later hbx
    have rj5 := rj4.later hbx
    clear hrd hb4 hbx rl4 rj4 hc3 HB4
    go_upto_region 8 with (fail)
    generalize w4.alloc (.cells #[.int .i64 e, .int .i64 f, .slice a4 nL k4, .slice b4 nJ m4] 25) = w5 at *
    generalize w4.heap.size = A4 at *
    have hrd := read_no (t ++ ⟨#[0]⟩) w5 (by have := HSZ.out; have h1 : (⟨#[0]⟩ : ByteArray).size = 1 := rfl; rw [ByteArray.size_append]; omega) HMORE.out
    have hm1 : ¬ 9223372036854775807 < t.size + 1 := by have := HSZ.out; omega
    have hm2 : ¬ 9223372036854775807 < t.size + (⟨#[0]⟩ : ByteArray).size := by have := HSZ.out; have h1 : (⟨#[0]⟩ : ByteArray).size = 1 := rfl; omega
    go_wp2_with fail
    refine hrd.mono ?_
    rintro r w6 ⟨a6, b6, k6, m6, rfl, hb6⟩
    have HB6 : Hid (Below w.heap.size w w6) := HB5.out.trans (hb6.mono HB5.out.size)
    have hbx := below_alloc w6 (.cells #[.int .i64 0, .int .i64 0, .slice a6 0 k6, .slice b6 0 m6] 25)
    have HB7 : Hid (Below w.heap.size w (w6.alloc (.cells #[.int .i64 0, .int .i64 0, .slice a6 0 k6, .slice b6 0 m6] 25))) := HB6.out.trans (hbx.mono HB6.out.size)
    have hx7 := (hx4.later hb6).later hbx
    have hc7 := (hc4.later hb6).later hbx
    have hsm := sr2_any e f e f a4 b4 aL aJ k4 m4 cL cJ L L J J _ (by omega) (by omega) (by omega) (by omega) ((rl5.later hb6).later hbx) ((rj5.later hb6).later hbx) (HRD.out.1.later HB7.out) (HRD.out.2.later HB7.out)
    rw [sam_refl, HNL.out.1, HNL.out.2] at hsm
    clear hrd hb6 hbx rl5 rj5 hc4 hx4 HB6 hm1 hm2
    go_upto_region 9 with (fail)
    generalize w6.alloc (.cells #[.int .i64 0, .int .i64 0, .slice a6 0 k6, .slice b6 0 m6] 25) = w7 at *
    generalize w6.heap.size = A6 at *
    obtain ⟨c0, c1, c2, c3⟩ := hc7.cells
    obtain ⟨d0, d1, d2, d3⟩ := hx7.cells
    clear hc7 hx7
    have hz1 : ((t.size : Int) == 0) = false := by have := HSZ.out; rw [beq_eq_false_iff_ne]; omega
    have hz2 : (t.size == 0) = false := by have := HSZ.out; rw [beq_eq_false_iff_ne]; omega
    have hz3 : decide (t.size = 0) = false := decide_eq_false (by have := HSZ.out; omega)
    go_wp2_with fail
    refine hsm.mono ?_
    rintro r w8 ⟨rfl, hb8⟩
    have HB8 : Hid (Below w.heap.size w w8) := HB7.out.trans (hb8.mono HB7.out.size)
    clear hsm hb8 c0 c1 c2 c3 d0 d1 d2 d3
    have hrd := read_no (t.extract 0 (t.size - 1)) w8 (by have := HSZ.out; simp; omega) HLESS.out
    have hsub : IntKind.i64.wrap ((t.size : Int) - 1) = ((t.size - 1 : Nat) : Int) := by have := HSZ.out; rw [Bt.wrap_fit _ (by omega) (by omega)]; omega
    have hsl1 : (0 : Int) ≤ ((t.size - 1 : Nat) : Int) := by omega
    have hsl2 : ((t.size - 1 : Nat) : Int) ≤ (t.size : Int) := by omega
    go_wp2_with fail
    refine hrd.mono ?_
    rintro r wE ⟨a9, b9, k9, m9, rfl, hb9⟩
    have HBE : Hid (Below w.heap.size w wE) := HB8.out.trans (hb9.mono HB8.out.size)
    clear hrd hb9 hsub hsl1 hsl2 hz1 hz2 hz3
    cases hok : okR (Bt.tb (Bt.bys s)) with
    | false =>
      have hr := read_no s wE HSS.out hok
      clear hok
      go_wp2_with fail
      refine hr.mono ?_
      rintro r w20 ⟨a20, b20, k20, m20, rfl, hb20⟩
      have HB20 : Hid (Below w.heap.size w w20) := HBE.out.trans (hb20.mono HBE.out.size)
      have hbx := below_alloc w20 (.cells #[.int .i64 0, .int .i64 0, .slice a20 0 k20, .slice b20 0 m20] 25)
      have HB21 : Hid (Below w.heap.size w (w20.alloc (.cells #[.int .i64 0, .int .i64 0, .slice a20 0 k20, .slice b20 0 m20] 25))) := HB20.out.trans (hbx.mono HB20.out.size)
      have hx20 := RcAt.new w20 #[.int .i64 0, .int .i64 0, .slice a20 0 k20, .slice b20 0 m20]
      have hsm := sr2_any 0 0 0 0 a20 b20 none none k20 m20 0 0 [] [] [] [] (w20.alloc (.cells #[.int .i64 0, .int .i64 0, .slice a20 0 k20, .slice b20 0 m20] 25)) (by simp) (by simp) (by simp) (by simp) (Rs.RdI.nil _ _) (fun i hi => by cases hi) (Rs.RdI.nil _ _) (fun i hi => by cases hi)
      rw [sam_refl] at hsm
      simp only [List.length_nil] at hsm
      clear hr hb20 hbx HB20
      go_upto_region 15 with (fail)
      generalize w20.alloc (.cells #[.int .i64 0, .int .i64 0, .slice a20 0 k20, .slice b20 0 m20] 25) = w21 at *
      generalize w20.heap.size = A20 at *
      obtain ⟨x0, x1, x2, x3⟩ := hx20.cells
      clear hx20
      go_wp2_with fail
      refine hsm.mono ?_
      rintro r w22 ⟨rfl, hb22⟩
      clear hsm x0 x1 x2 x3
      go_wp2_with fail
      go_ret
      exact ⟨rfl, HB21.out.trans (hb22.mono HB21.out.size)⟩
    | true =>
      have HTX : Hid (rgt (rEp (Bt.tb (Bt.bys s))) (rFr (Bt.tb (Bt.bys s))) (rLv (Bt.tb (Bt.bys s))) (rJn (Bt.tb (Bt.bys s))) = true ∧ wrS (rEp (Bt.tb (Bt.bys s))) (rFr (Bt.tb (Bt.bys s))) (rLv (Bt.tb (Bt.bys s))) (rJn (Bt.tb (Bt.bys s))) = s) := okR_text hok
      have hr := read_ok s wE HSS.out hok rfl rfl rfl rfl
      clear hok
      generalize rEp (Bt.tb (Bt.bys s)) = e2 at *
      generalize rFr (Bt.tb (Bt.bys s)) = f2 at *
      generalize rLv (Bt.tb (Bt.bys s)) = L2 at *
      generalize rJn (Bt.tb (Bt.bys s)) = J2 at *
      go_wp2_with fail
      refine hr.mono ?_
      rintro r w20 ⟨a20, b20, k20, m20, rfl, rl20, rj20, hb20⟩
      have HB20 : Hid (Below w.heap.size w w20) := HBE.out.trans (hb20.mono HBE.out.size)
      have hbx := below_alloc w20 (.cells #[.int .i64 e2, .int .i64 f2, .slice a20 L2.length k20, .slice b20 J2.length m20] 25)
      have HB21 : Hid (Below w.heap.size w (w20.alloc (.cells #[.int .i64 e2, .int .i64 f2, .slice a20 L2.length k20, .slice b20 J2.length m20] 25))) := HB20.out.trans (hbx.mono HB20.out.size)
      have hx20 := RcAt.new w20 #[.int .i64 e2, .int .i64 f2, .slice a20 L2.length k20, .slice b20 J2.length m20]
      have hwt := write_any e2 f2 a20 b20 k20 m20 L2 J2 _ (rl20.later hbx) (rj20.later hbx)
      rw [HTX.out.2, show wrE e2 f2 L2 J2 = 0 by unfold wrE; rw [HTX.out.1]; rfl] at hwt
      clear hr hb20 hbx HB20 rl20 rj20
      generalize L2.length = nL2 at *
      generalize J2.length = nJ2 at *
      go_upto_region 15 with (fail)
      generalize w20.alloc (.cells #[.int .i64 e2, .int .i64 f2, .slice a20 nL2 k20, .slice b20 nJ2 m20] 25) = w21 at *
      generalize w20.heap.size = A20 at *
      obtain ⟨x0, x1, x2, x3⟩ := hx20.cells
      clear hx20
      go_wp2_with fail
      refine hwt.mono ?_
      rintro r w22 ⟨rfl, hb22⟩
      clear hwt x0 x1 x2 x3
      go_wp2_with fail
      go_ret
      exact ⟨rfl, HB21.out.trans (hb22.mono HB21.out.size)⟩
theorem own : ownKnob Tryd.prog.godebug = none := by kernel_rfl
theorem laidOut : laidOutB Tryd.prog = true := by kernel_rfl
theorem text_reach {s : ByteArray} (h : s.data.toList.length ≤ reachBytes) : s.size ≤ 140737488351232 := by
  have e2 : s.data.toList.length = s.data.size := Array.length_toList
  have e1 : s.size = s.data.size := rfl
  unfold reachBytes at h
  omega
set_option maxRecDepth 20000 in
theorem contract (H : Type) (enc : TypeId × Value → H) (W : World) (base : Nat) (args : Array Value) (ds gs : List (DataW H)) (before : List MemPlace)
    (hval : ∀ (j : Nat) t v, Tryd.f4.params[j]? = some t → args[j]? = some v → Value.okWide Tryd.prog W .any base t v)
    (hW : DataW.Whole enc Tryd.prog Tryd.f4.params.toList Rows.recordBackSpec.vars false W args.toList ds gs before)
    (hsz : (DataW.weightsEach Tryd.prog (Tryd.f4.params.toList ++ Rows.recordBackSpec.plain.varTypes Tryd.prog) (ds ++ gs)).all (· ≤ reachBytes) = true)
    (hL : laidMetH Tryd.prog Rows.recordBackRow.laid W) :
    Calls Tryd.prog 4 args W fun e W' => ∃ v, e = .returned v ∧ Rows.recordBackSpec.post enc Tryd.prog Tryd.f4 false true false false W args v W' := by
  have hv := vs_of hL
  have hW' := hW
  obtain ⟨p, q, hA0, hV, rfl, hfz, hnd⟩ := hW
  have hA : DataW.TrodAll enc Tryd.prog W 0 (fun _ => true) true Tryd.f4.params.toList args.toList ds p := hA0
  rw [Tryd.params4] at hA hval hsz
  obtain ⟨v0, vs0, d0, ds0, p0, q0, hargs, rfl, rfl, h0, r0⟩ := trodAll_cons hA
  obtain ⟨v1, vs1, d1, ds1, p1, q1, rfl, rfl, rfl, h1, r1⟩ := trodAll_cons r0
  obtain ⟨rfl, rfl, rfl⟩ := trodAll_nil r1
  obtain rfl : args = #[v0, v1] := by cases args; simp_all
  obtain ⟨rfl, rfl⟩ := trodVars_none hV
  have k0 := h0
  have lt0 : ∀ x ∈ p0, x.block < W.heap.size := by obtain ⟨m, hm⟩ := k0; exact DataW.trod_lt m _ _ _ hm
  obtain ⟨e0, f0, aL0, aJ0, cL0, cJ0, L0, J0, rfl, rL0, rJ0, lL0, lJ0⟩ := open_rc (fun parts e => sized_agg hsz (j := 0) (t := 25) rfl (by rw [← e]; rfl) Tryd.underlying25) (hval 0 25 v0 rfl rfl) h0
  obtain ⟨s1, rfl, rfl, rfl, hs1⟩ := Go.ChangeMaps.open_string Tryd.underlying9 (hval 1 9 v1 rfl rfl) h1
  have hl1 : s1.size ≤ 140737488351232 := text_reach (sized_string hsz (j := 1) (t := 9) rfl rfl)
  clear hA0
  refine (walk e0 f0 aL0 aJ0 cL0 cJ0 L0 J0 s1 W rL0 rJ0 lL0 lJ0 hl1 hv).mono fun e W' ⟨he, bel⟩ => ?_
  subst he
  exact ⟨_, rfl, _, _, _, [], _, [], hW', trodAll_mk1 (shut_bool Tryd.underlying4 _), (trodAll_cons_mk (Below.trod laidOut (by kernel_rfl) (of_decide_eq_true (by kernel_rfl)) k0 bel lt0) (trodAll_cons_mk (Go.ChangeMaps.shut_string Tryd.underlying9 hs1) trodAll_mk0)), rfl, bel.frame _, fun h => by cases h⟩
set_option maxRecDepth 100000 in
theorem laid_met (os : Os) : laidMet Tryd.prog Rows.recordBackRow.laid ((laidWorld os).forCall (fun _ _ => 0) ⟨#[], #[.agg #[.int .i64 0, .int .i64 0, .slice none 0 0, .slice none 0 0], .string ⟨#[]⟩], []⟩).memory :=
  laidMet_of_run' 8 (by kernel_rfl) (by kernel_rfl)
set_option maxRecDepth 100000 in
theorem reads (os : Os) {H : Type} (enc : TypeId × Value → H) : ∃ places, DataW.whole enc Tryd.prog ((laidWorld os).forCall (fun _ _ => 0) ⟨#[], #[.agg #[.int .i64 0, .int .i64 0, .slice none 0 0, .slice none 0 0], .string ⟨#[]⟩], []⟩).memory Tryd.f4.params.toList Rows.recordBackSpec.vars false (#[.agg #[.int .i64 0, .int .i64 0, .slice none 0 0, .slice none 0 0], .string ⟨#[]⟩] : Array Value).toList 8 = some ([.agg [.lit (.int .i64 0), .lit (.int .i64 0), .nil, .nil], .lit (.string [])], [], places) :=
  ⟨[], by kernel_rfl⟩
set_option maxRecDepth 100000 in
theorem lifted (os : Os) (started : os.Started) (H : Type) (enc : TypeId × Value → H) (F : Stop.Interp) :
    ReturnsInHanded {} Tryd.checked os 4 .any ((OpenSpec.ofChange Rows.recordBackSpec).preRow enc Tryd.prog Tryd.f4 Rows.recordBackRow.domain false Rows.recordBackRow.laid) (((OpenSpec.ofChange Rows.recordBackSpec).at F).post enc Tryd.prog Tryd.f4 false true false false) := by
  obtain ⟨places, hx⟩ := reads os enc
  refine returnsInHanded_of_row (C := Tryd.checked) (s := (OpenSpec.ofChange Rows.recordBackSpec)) own started (by kernel_rfl) Tryd.func4
    (witness_row_at (enc := enc) (C := Tryd.checked) false (laidWorld os) #[.agg #[.int .i64 0, .int .i64 0, .slice none 0 0, .slice none 0 0], .string ⟨#[]⟩] rfl (by kernel_rfl) (by kernel_rfl) (by kernel_rfl)
      (OpenSpec.preRow_of_cond 8 hx (by kernel_rfl) (fun k hk => by cases hk) (by kernel_rfl) (laid_met os))) ?_
  intro W base args ds gs before hval hW hc1 hc2 hsz hL hsh _
  exact contract H enc W base args ds gs before hval hW hsz hL
theorem said : Rows.RecordBackSaid :=
  OpenClaim.holds_of_cond 4 Tryd.f4 rfl rfl rfl rfl rfl rfl rfl ⟨rfl, rfl, rfl, rfl, rfl⟩ rfl rfl rfl rfl rfl (by kernel_rfl) Tryd.func4 (by kernel_rfl)
    (of_decide_eq_true (by kernel_rfl)) (by unfold Func.isWrapper; first | (rw [if_pos (by decide +kernel)]; kernel_rfl) | (rw [if_neg (by decide +kernel)]; exact ⟨rfl, rfl⟩))
    (fun os started H enc _ F => by rw [OpenClaim.pre_eq_preRow]; exact lifted os started H enc F)
theorem plain (f : FuncId) (fn : Func) (hf : Tryd.pinned.checked.prog.funcNamed "coterie/coterielaw13.RecordBack" = some f) (hfn : Tryd.pinned.checked.prog.funcs[f]? = some fn) :
    false = Tryd.pinned.checked.prog.looks [] ∧ ∀ (j : Nat) t, fn.params[j]? = some t → Tryd.pinned.checked.prog.wantsStandIn t = false := by
  obtain rfl : f = 4 := Option.some.inj ((show Tryd.prog.funcNamed "coterie/coterielaw13.RecordBack" = some 4 by kernel_rfl).symm.trans hf) |>.symm
  obtain rfl : fn = Tryd.f4 := (Option.some.inj (Tryd.func4.symm.trans hfn)).symm
  refine ⟨by kernel_rfl, fun j t ht => ?_⟩
  rw [Tryd.params4] at ht
  have h9 : Tryd.prog.wantsStandIn 9 = false := by kernel_rfl
  have h25 : Tryd.prog.wantsStandIn 25 = false := by kernel_rfl
  have hm := Array.mem_of_getElem? ht
  simp at hm
  rcases hm with rfl | rfl
  · exact h25
  · exact h9
end Go.Proofs.YteocfmimgoocnaaDoor.recordBack
namespace Go.Proofs.YteocfmimgoocnaaDoor
theorem recordBack_holds : Rows.RecordBackCardSaid :=
  Claim7.holds_tied_plain_at .later [] _ _ _ _ recordBack.said (fun _ h => by cases h) (by kernel_rfl) (fun _ h => by cases h) recordBack_row_tie rfl ⟨rfl, rfl⟩ (by kernel_rfl) rfl recordBack.plain (by kernel_rfl)
#print axioms recordBack_holds
end Go.Proofs.YteocfmimgoocnaaDoor
