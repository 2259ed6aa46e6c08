/- Contracts: the document's GoodRekey, GoodRequest, GoodReply, GoodSealed. -/
import Derived.Test.YtdghibimelhgjaaGreatWiJ1
namespace Go.Proofs.YtdghibimelhgjaaGreat.Wi
open Go.RowKit Go.Maps
open Rt (gd)
open Sh (belB)
set_option linter.unusedVariables false
set_option linter.unusedSimpArgs false

theorem gS_split (s : Int × Int) : gS s = (gW s.1 && gL s.2) := rfl
set_option maxRecDepth 100000 in
set_option maxHeartbeats 1000000 in
theorem rReply_any (p : (Int × Int) × (Int × (((Int × Int) × (Int × Int)) × (((Int × Int) × (Int × Int)) × ((Int × Int) × (Int × Int)))))) (w : World) : Calls Tryz.prog 31 #[.agg (rpl p).toArray] w fun e w' => e = .returned (.bool (gP p)) ∧ Below w.heap.size w w' := by
  obtain ⟨⟨a, b⟩, c, x, y, z⟩ := p
  have HG : Hid (gP ((a, b), c, x, y, z) = ((gW a && gL b) && (gE c && (gB x && (gB y && gB z))))) := rfl
  rw [HG.out]
  have h1 := rPerson_any a
  have h2 := rSlot_any b
  have h3 := rEpoch_any c
  have b0 := rGoodBox_any x
  have b1 := rGoodBox_any y
  have b2 := rGoodBox_any z
  have hR := heap_alloc_last w (.cells (rpq a b c x y z).toArray 47)
  have hB := below_alloc w (.cells (rpq a b c x y z).toArray 47)
  have e0 : (rpl ((a, b), c, x, y, z)).toArray = (rpq a b c x y z).toArray := rfl
  rw [e0]
  have HD : Hid (∀ (W : World) (D : Nat), W.heap[D]? = some (.cells (rpq a b c x y z).toArray 47 (0, 0)) → W.cell? ⟨D, 0, none⟩ = some (.int .i64 a) ∧ W.cell? ⟨D, 1, none⟩ = some (.int .i64 b) ∧ W.cell? ⟨D, 2, none⟩ = some (.int .i64 c) ∧ W.rangeAt D 3 [.int .i64 x.1.1, .int .i64 x.1.2, .int .i64 x.2.1, .int .i64 x.2.2] ∧ W.rangeAt D 7 [.int .i64 y.1.1, .int .i64 y.1.2, .int .i64 y.2.1, .int .i64 y.2.2] ∧ W.rangeAt D 11 [.int .i64 z.1.1, .int .i64 z.1.2, .int .i64 z.2.1, .int .i64 z.2.2]) := by
    intro W D h
    exact ⟨(cell_of_row W D 0 _ _ _ h).trans rfl, (cell_of_row W D 1 _ _ _ h).trans rfl, (cell_of_row W D 2 _ _ _ h).trans rfl, ra_of h 3 _ rfl, ra_of h 7 _ rfl, ra_of h 11 _ rfl⟩
  clear e0 HG
  generalize gW a = g1 at *
  generalize gL b = g2 at *
  generalize gE c = g3 at *
  generalize gB x = g4 at *
  generalize gB y = g5 at *
  generalize gB z = g6 at *
  obtain ⟨cs, hcs⟩ : ∃ cs, (rpq a b c x y z).toArray = cs := ⟨_, rfl⟩
  rw [hcs] at hR hB HD
  rw [hcs]
  clear hcs
  go_enter Tryz.func31, Tryz.ntmps31
  go_upto_region 1 with (fail)
  generalize w.alloc (.cells cs 47) = w1 at *
  obtain ⟨B, hBe⟩ : ∃ B, w.heap.size = B := ⟨_, rfl⟩
  rw [hBe] at hR ⊢
  clear hBe
  have HB : Hid (Below w.heap.size w w1) := hB
  clear hB
  obtain ⟨q0, q1, q2, q3, q4, q5⟩ := HD.out _ _ hR
  clear q0 q1 q2 q4 q5
  go_wp2_with fail
  refine wp_loop_rounds 4 ?_
  rw [rounds_succ]; go_wp2_with (refine ldM q3 Tryz.underlying44 rfl szBox _ rfl rfl rfl ?_)
  refine (b0 _).mono ?_
  rintro q w2 ⟨rfl, hb2⟩
  have hR2 := row_later hR hb2
  have HB2 : Hid (Below w.heap.size w w2) := Below.join HB.out hb2
  clear hR HB q3 hb2 b0
  cases g4 with
  | false =>
    go_wp2_with fail
    go_ret
    exact ⟨by simp, HB2.out⟩
  | true =>
    obtain ⟨q0, q1, q2, q3, q4, q5⟩ := HD.out _ _ hR2
    clear q0 q1 q2 q3 q5
    go_wp2_with fail
    rw [rounds_succ]; go_wp2_with (refine ldM q4 Tryz.underlying44 rfl szBox _ rfl rfl rfl ?_)
    refine (b1 _).mono ?_
    rintro q w3 ⟨rfl, hb3⟩
    have hR3 := row_later hR2 hb3
    have HB3 : Hid (Below w.heap.size w w3) := Below.join HB2.out hb3
    clear hR2 HB2 q4 hb3 b1
    cases g5 with
    | false =>
      go_wp2_with fail
      go_ret
      exact ⟨by simp, HB3.out⟩
    | true =>
      obtain ⟨q0, q1, q2, q3, q4, q5⟩ := HD.out _ _ hR3
      clear q0 q1 q2 q3 q4
      go_wp2_with fail
      rw [rounds_succ]; go_wp2_with (refine ldM q5 Tryz.underlying44 rfl szBox _ rfl rfl rfl ?_)
      refine (b2 _).mono ?_
      rintro q w4 ⟨rfl, hb4⟩
      have hR4 := row_later hR3 hb4
      have HB4 : Hid (Below w.heap.size w w4) := Below.join HB3.out hb4
      clear hR3 HB3 q5 hb4 b2
      cases g6 with
      | false =>
        go_wp2_with fail
        go_ret
        exact ⟨by simp, HB4.out⟩
      | true =>
        obtain ⟨q0, q1, q2, q3, q4, q5⟩ := HD.out _ _ hR4
        clear q3 q4 q5 hR4
        go_wp2_with fail
        rw [rounds_succ]
        cases g1 with
        | false =>
          go_wp2_with (go_at_call 56; refine (h1 _).mono ?_; rintro r w' ⟨rfl, rfl⟩)
          go_ret
          exact ⟨rfl, HB4.out⟩
        | true =>
          cases g2 with
          | false =>
            go_wp2_with (first | (go_at_call 56; refine (h1 _).mono ?_; rintro r w' ⟨rfl, rfl⟩) | (go_at_call 57; refine (h2 _).mono ?_; rintro r w' ⟨rfl, rfl⟩))
            go_ret
            exact ⟨rfl, HB4.out⟩
          | true =>
            go_wp2_with (first | (go_at_call 56; refine (h1 _).mono ?_; rintro r w' ⟨rfl, rfl⟩) | (go_at_call 57; refine (h2 _).mono ?_; rintro r w' ⟨rfl, rfl⟩) | (go_at_call 58; refine (h3 _).mono ?_; rintro r w' ⟨rfl, rfl⟩))
            go_ret
            exact ⟨by cases g3 <;> rfl, HB4.out⟩
theorem gI_no1 {i : (Int × Int) × ((Int × Int) × (Int × Int))} (h : ¬ (0 ≤ i.1.1 ∧ i.1.1 < 21)) : gI i = false := by
  unfold gI
  by_cases h0 : 0 ≤ i.1.1
  · rw [decide_eq_false (show ¬ i.1.1 < 21 from fun h1 => h ⟨h0, h1⟩), Bool.and_false]; rfl
  · rw [decide_eq_false h0]; rfl
theorem gI_yes1 {i : (Int × Int) × ((Int × Int) × (Int × Int))} (h0 : 0 ≤ i.1.1) (h1 : i.1.1 < 21) : gI i = (dpr i.1.1 i.1.2 && gB i.2) := by
  unfold gI
  rw [decide_eq_true h0, decide_eq_true h1]; rfl
end Go.Proofs.YtdghibimelhgjaaGreat.Wi
