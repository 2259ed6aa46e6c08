/- WiI, WiJ, joined. -/
import Derived.Test.YtdkfifnhmfbagaaGreatWiJ1
import Derived.Test.YtdkfifnhmfbagaaGreatWiH
/- Contracts: the document's GoodRekey, GoodRequest, GoodReply, GoodSealed. -/
namespace Go.Proofs.YtdkfifnhmfbagaaGreat.Wi
open Go.RowKit Go.Maps
open Rt (gd)
open Sh (belB)
set_option linter.unusedVariables false
set_option linter.unusedSimpArgs false

theorem gS_split (s : Int × Int) : gS s = (gW s.1 && gL s.2) := rfl
set_option maxRecDepth 100000 in
set_option maxHeartbeats 1000000 in
theorem rSeats_any (a : Option Addr) (c : Nat) (l : List (Int × Int)) (w : World) (rd : RdV stl 2 w a l) (hl : l.length < 4611686018427387904) :
    Calls Tryz.prog 57 #[.slice a l.length c] w fun e w' => e = .returned (.bool (decide (l.length ≤ 64) && l.all gS)) ∧ Below w.heap.size w w' := by
  obtain ⟨n, hn⟩ : ∃ n, l.length = n := ⟨_, rfl⟩
  have HN : Hid (l.length = n) := hn
  rw [hn] at hl
  rw [hn]
  clear hn
  go_enter Tryz.func57, Tryz.ntmps57
  go_wp2_with fail
  go_loopw [7] (fun i wx => ∃ k : Nat, k ≤ n ∧ i = .int .i64 (k : Int) ∧ (∀ x ∈ l.take k, gS x = true) ∧ Below w.heap.size w wx) (fun i _ => n - (intOf i).toNat)
  case atStart => exact ⟨0, by omega, rfl, by simp, Below.refl _ _⟩
  case round =>
    obtain ⟨k, hk, rfl, hA, hb⟩ := hrel
    have HA : Hid (∀ x ∈ l.take k, gS x = true) := hA
    have HB : Hid (Below w.heap.size w wr) := hb
    clear hA hb
    by_cases hkn : k < n
    · have hkl : k < l.length := by rw [HN.out]; exact hkn
      obtain ⟨b, o, rfl, hr⟩ := rd k hkl
      have hr := ra_later hr HB.out
      unfold stl at hr
      have i1 : (0 : Int) ≤ (k : Int) := by omega
      have i2 : (k : Int) < (n : Int) := by omega
      have h1 := rPerson_any l[k].1
      have h2 := rSlot_any l[k].2
      cases hg1 : gW l[k].1 with
      | false =>
        rw [hg1] at h1
        have HE : Hid (l.all gS = false) := all_no hkl (by rw [gS_split, hg1]; rfl)
        generalize l[k] = p at *
        clear hg1 h2
        go_wp2_with (first | (refine ldM hr Tryz.underlying55 rfl szSeat _ rfl rfl rfl ?_) | (go_at_call 60; refine (h1 _).mono ?_; rintro r w' ⟨rfl, rfl⟩))
        go_ret
        exact ⟨ret_bool (by rw [HE.out]; simp), Below.plus HB.out _⟩
      | true =>
        rw [hg1] at h1
        cases hg2 : gL l[k].2 with
        | false =>
          rw [hg2] at h2
          have HE : Hid (l.all gS = false) := all_no hkl (by rw [gS_split, hg1, hg2]; rfl)
          generalize l[k] = p at *
          clear hg1 hg2
          go_wp2_with (first | (refine ldM hr Tryz.underlying55 rfl szSeat _ rfl rfl rfl ?_) | (go_at_call 60; refine (h1 _).mono ?_; rintro r w' ⟨rfl, rfl⟩) | (go_at_call 61; refine (h2 _).mono ?_; rintro r w' ⟨rfl, rfl⟩))
          go_ret
          exact ⟨ret_bool (by rw [HE.out]; simp), Below.plus HB.out _⟩
        | true =>
          rw [hg2] at h2
          have HA2 : Hid (∀ x ∈ l.take (k + 1), gS x = true) := all_nx hkl HA.out (by rw [gS_split, hg1, hg2]; rfl)
          generalize l[k] = p at *
          clear hg1 hg2
          go_wp2_with (first | (refine ldM hr Tryz.underlying55 rfl szSeat _ rfl rfl rfl ?_) | (go_at_call 60; refine (h1 _).mono ?_; rintro r w' ⟨rfl, rfl⟩) | (go_at_call 61; refine (h2 _).mono ?_; rintro r w' ⟨rfl, rfl⟩))
          go_roundw
          case rel => exact ⟨k + 1, by omega, by go_num, HA2.out, Below.plus HB.out _⟩
          case measure => simp [intOf]; omega
    · have hkn' : decide ((k : Int) < (n : Int)) = false := by simp; omega
      have HE : Hid (l.all gS = true) := all_yes (by rw [HN.out]; have : k = n := by omega
                                                     rw [← this]; exact HA.out)
      by_cases h64 : n ≤ 64
      · have d1 : (n : Int) ≤ 64 := by omega
        go_wp2_with fail
        go_ret
        exact ⟨ret_bool (by rw [HE.out]; simp [h64]), HB.out⟩
      · have d1 : decide ((n : Int) ≤ 64) = false := by simp; omega
        have d2 : ¬ (n : Int) ≤ 64 := by omega
        have HF : Hid ((decide (n ≤ 64) && l.all gS) = false) := by unfold Hid; rw [decide_eq_false h64]; rfl
        go_wp2_with fail
        go_ret
        exact ⟨ret_bool (by first | rfl | exact HF.out.symm | (rw [HE.out]; simp [h64])), HB.out⟩
theorem rRequest_any (q : Int × Int) (w : World) : Calls Tryz.prog 25 #[.agg (stl q).toArray] w fun e w' => e = .returned (.bool (gQ q)) ∧ Below w.heap.size w w' := by
  obtain ⟨a, b⟩ := q
  unfold stl
  dsimp only
  have HG : Hid (gQ (a, b) = (gW a && gE b)) := rfl
  rw [HG.out]
  have h1 := rPerson_any a
  have h2 := rEpoch_any b
  generalize gW a = x at *
  generalize gE b = y at *
  clear HG
  cases x with
  | false =>
    go_enter Tryz.func25, Tryz.ntmps25
    go_wp2_with (go_at_call 60; refine (h1 _).mono ?_; rintro r w' ⟨rfl, rfl⟩)
    go_ret
    exact ⟨rfl, below_alloc _ _⟩
  | true =>
    go_enter Tryz.func25, Tryz.ntmps25
    go_wp2_with (first | (go_at_call 60; refine (h1 _).mono ?_; rintro r w' ⟨rfl, rfl⟩) | (go_at_call 56; refine (h2 _).mono ?_; rintro r w' ⟨rfl, rfl⟩))
    go_ret
    exact ⟨by cases y <;> rfl, below_alloc _ _⟩
set_option maxRecDepth 100000 in
theorem rSealed_any (d : Int × ((Int × Int) × ByteArray)) (w : World) (hn : d.2.2.size < 4611686018427387904) : Calls Tryz.prog 27 #[.agg (sdl d).toArray] w fun e w' => e = .returned (.bool (gD d)) ∧ Below w.heap.size w w' := by
  obtain ⟨a, ⟨b, c⟩, s⟩ := d
  unfold sdl
  dsimp only at *
  have HG : Hid (gD (a, (b, c), s) = (gE a && (gd b c && decide (s.size ≤ 64)))) := rfl
  rw [HG.out]
  have h1 := rEpoch_any a
  have h2 := Rt.rGood_any b c
  generalize gE a = x at *
  generalize gd b c = y at *
  clear HG
  obtain ⟨n, hne⟩ : ∃ n, s.size = n := ⟨_, rfl⟩
  rw [hne] at hn
  rw [hne]
  have HN : Hid (s.size = n) := hne
  cases x with
  | false =>
    go_enter Tryz.func27, Tryz.ntmps27
    go_wp2_with (go_at_call 56; refine (h1 _).mono ?_; rintro r w' ⟨rfl, rfl⟩)
    go_ret
    exact ⟨rfl, below_alloc _ _⟩
  | true =>
    cases y with
    | false =>
      go_enter Tryz.func27, Tryz.ntmps27
      go_wp2_with (first | (go_at_call 56; refine (h1 _).mono ?_; rintro r w' ⟨rfl, rfl⟩) | (go_at_call 62; refine (h2 _).mono ?_; rintro r w' ⟨rfl, rfl⟩))
      go_ret
      exact ⟨rfl, Below.plus (below_alloc _ _) _⟩
    | true =>
      by_cases h64 : n ≤ 64
      · have d1 : (n : Int) ≤ 64 := by omega
        go_enter Tryz.func27, Tryz.ntmps27
        go_wp2_with (first | (go_at_call 56; refine (h1 _).mono ?_; rintro r w' ⟨rfl, rfl⟩) | (go_at_call 62; refine (h2 _).mono ?_; rintro r w' ⟨rfl, rfl⟩))
        go_ret
        exact ⟨by simp [h64], Below.plus (below_alloc _ _) _⟩
      · have d1 : decide ((n : Int) ≤ 64) = false := by simp; omega
        go_enter Tryz.func27, Tryz.ntmps27
        go_wp2_with (first | (go_at_call 56; refine (h1 _).mono ?_; rintro r w' ⟨rfl, rfl⟩) | (go_at_call 62; refine (h2 _).mono ?_; rintro r w' ⟨rfl, rfl⟩))
        go_ret
        exact ⟨by simp [h64] <;> omega, Below.plus (below_alloc _ _) _⟩
set_option maxRecDepth 100000 in
set_option maxHeartbeats 1000000 in
theorem rReply_any (p : (Int × Int) × (Int × (((Int × Int) × (Int × Int)) × (((Int × Int) × (Int × Int)) × ((Int × Int) × (Int × Int)))))) (w : World) : Calls Tryz.prog 26 #[.agg (rpl p).toArray] w fun e w' => e = .returned (.bool (gP p)) ∧ Below w.heap.size w w' := by
  obtain ⟨⟨a, b⟩, c, x, y, z⟩ := p
  have HG : Hid (gP ((a, b), c, x, y, z) = ((gW a && gL b) && (gE c && (gB x && (gB y && gB z))))) := rfl
  rw [HG.out]
  have h1 := rPerson_any a
  have h2 := rSlot_any b
  have h3 := rEpoch_any c
  have b0 := rGoodBox_any x
  have b1 := rGoodBox_any y
  have b2 := rGoodBox_any z
  have hR := heap_alloc_last w (.cells (rpq a b c x y z).toArray 34)
  have hB := below_alloc w (.cells (rpq a b c x y z).toArray 34)
  have e0 : (rpl ((a, b), c, x, y, z)).toArray = (rpq a b c x y z).toArray := rfl
  rw [e0]
  have HD : Hid (∀ (W : World) (D : Nat), W.heap[D]? = some (.cells (rpq a b c x y z).toArray 34 (0, 0)) → W.cell? ⟨D, 0, none⟩ = some (.int .i64 a) ∧ W.cell? ⟨D, 1, none⟩ = some (.int .i64 b) ∧ W.cell? ⟨D, 2, none⟩ = some (.int .i64 c) ∧ W.rangeAt D 3 [.int .i64 x.1.1, .int .i64 x.1.2, .int .i64 x.2.1, .int .i64 x.2.2] ∧ W.rangeAt D 7 [.int .i64 y.1.1, .int .i64 y.1.2, .int .i64 y.2.1, .int .i64 y.2.2] ∧ W.rangeAt D 11 [.int .i64 z.1.1, .int .i64 z.1.2, .int .i64 z.2.1, .int .i64 z.2.2]) := by
    intro W D h
    exact ⟨(cell_of_row W D 0 _ _ _ h).trans rfl, (cell_of_row W D 1 _ _ _ h).trans rfl, (cell_of_row W D 2 _ _ _ h).trans rfl, ra_of h 3 _ rfl, ra_of h 7 _ rfl, ra_of h 11 _ rfl⟩
  clear e0 HG
  generalize gW a = g1 at *
  generalize gL b = g2 at *
  generalize gE c = g3 at *
  generalize gB x = g4 at *
  generalize gB y = g5 at *
  generalize gB z = g6 at *
  obtain ⟨cs, hcs⟩ : ∃ cs, (rpq a b c x y z).toArray = cs := ⟨_, rfl⟩
  rw [hcs] at hR hB HD
  rw [hcs]
  clear hcs
  go_enter Tryz.func26, Tryz.ntmps26
  go_upto_region 1 with (fail)
  generalize w.alloc (.cells cs 34) = w1 at *
  obtain ⟨B, hBe⟩ : ∃ B, w.heap.size = B := ⟨_, rfl⟩
  rw [hBe] at hR ⊢
  clear hBe
  have HB : Hid (Below w.heap.size w w1) := hB
  clear hB
  obtain ⟨q0, q1, q2, q3, q4, q5⟩ := HD.out _ _ hR
  clear q0 q1 q2 q4 q5
  go_wp2_with fail
  refine wp_loop_rounds 4 ?_
  rw [rounds_succ]; go_wp2_with (refine ldM q3 Tryz.underlying31 rfl szBox _ rfl rfl rfl ?_)
  refine (b0 _).mono ?_
  rintro q w2 ⟨rfl, hb2⟩
  have hR2 := row_later hR hb2
  have HB2 : Hid (Below w.heap.size w w2) := Below.join HB.out hb2
  clear hR HB q3 hb2 b0
  cases g4 with
  | false =>
    go_wp2_with fail
    go_ret
    exact ⟨by simp, HB2.out⟩
  | true =>
    obtain ⟨q0, q1, q2, q3, q4, q5⟩ := HD.out _ _ hR2
    clear q0 q1 q2 q3 q5
    go_wp2_with fail
    rw [rounds_succ]; go_wp2_with (refine ldM q4 Tryz.underlying31 rfl szBox _ rfl rfl rfl ?_)
    refine (b1 _).mono ?_
    rintro q w3 ⟨rfl, hb3⟩
    have hR3 := row_later hR2 hb3
    have HB3 : Hid (Below w.heap.size w w3) := Below.join HB2.out hb3
    clear hR2 HB2 q4 hb3 b1
    cases g5 with
    | false =>
      go_wp2_with fail
      go_ret
      exact ⟨by simp, HB3.out⟩
    | true =>
      obtain ⟨q0, q1, q2, q3, q4, q5⟩ := HD.out _ _ hR3
      clear q0 q1 q2 q3 q4
      go_wp2_with fail
      rw [rounds_succ]; go_wp2_with (refine ldM q5 Tryz.underlying31 rfl szBox _ rfl rfl rfl ?_)
      refine (b2 _).mono ?_
      rintro q w4 ⟨rfl, hb4⟩
      have hR4 := row_later hR3 hb4
      have HB4 : Hid (Below w.heap.size w w4) := Below.join HB3.out hb4
      clear hR3 HB3 q5 hb4 b2
      cases g6 with
      | false =>
        go_wp2_with fail
        go_ret
        exact ⟨by simp, HB4.out⟩
      | true =>
        obtain ⟨q0, q1, q2, q3, q4, q5⟩ := HD.out _ _ hR4
        clear q3 q4 q5 hR4
        go_wp2_with fail
        rw [rounds_succ]
        cases g1 with
        | false =>
          go_wp2_with (go_at_call 60; refine (h1 _).mono ?_; rintro r w' ⟨rfl, rfl⟩)
          go_ret
          exact ⟨rfl, HB4.out⟩
        | true =>
          cases g2 with
          | false =>
            go_wp2_with (first | (go_at_call 60; refine (h1 _).mono ?_; rintro r w' ⟨rfl, rfl⟩) | (go_at_call 61; refine (h2 _).mono ?_; rintro r w' ⟨rfl, rfl⟩))
            go_ret
            exact ⟨rfl, HB4.out⟩
          | true =>
            go_wp2_with (first | (go_at_call 60; refine (h1 _).mono ?_; rintro r w' ⟨rfl, rfl⟩) | (go_at_call 61; refine (h2 _).mono ?_; rintro r w' ⟨rfl, rfl⟩) | (go_at_call 56; refine (h3 _).mono ?_; rintro r w' ⟨rfl, rfl⟩))
            go_ret
            exact ⟨by cases g3 <;> rfl, HB4.out⟩
theorem gI_no1 {i : (Int × Int) × ((Int × Int) × (Int × Int))} (h : ¬ (0 ≤ i.1.1 ∧ i.1.1 < 21)) : gI i = false := by
  unfold gI
  by_cases h0 : 0 ≤ i.1.1
  · rw [decide_eq_false (show ¬ i.1.1 < 21 from fun h1 => h ⟨h0, h1⟩), Bool.and_false]; rfl
  · rw [decide_eq_false h0]; rfl
theorem gI_yes1 {i : (Int × Int) × ((Int × Int) × (Int × Int))} (h0 : 0 ≤ i.1.1) (h1 : i.1.1 < 21) : gI i = (dpr i.1.1 i.1.2 && gB i.2) := by
  unfold gI
  rw [decide_eq_true h0, decide_eq_true h1]; rfl
set_option maxRecDepth 100000 in
set_option maxHeartbeats 2000000 in
theorem rRekey_any (r : Int × (List (Int × Int) × (List (Int × Int) × List ((Int × Int) × ((Int × Int) × (Int × Int)))))) (aL aJ aI : Option Addr) (cL cJ cI : Nat) (w : World) (rL : RdV stl 2 w aL r.2.1) (rJ : RdV stl 2 w aJ r.2.2.1) (rI : RdV itl 6 w aI r.2.2.2) (nL : r.2.1.length < 4611686018427387904) (nJ : r.2.2.1.length < 4611686018427387904) (nI : r.2.2.2.length < 4611686018427387904) :
    Calls Tryz.prog 24 #[.agg (rkl r.1 (.slice aL r.2.1.length cL) (.slice aJ r.2.2.1.length cJ) (.slice aI r.2.2.2.length cI)).toArray] w fun e w' => e = .returned (.bool (gR r)) ∧ Below w.heap.size w w' := by
  obtain ⟨e, L, J, I⟩ := r
  dsimp only at *
  have HG : Hid (gR (e, L, J, I) = (gE e && ((decide (L.length ≤ 64) && L.all gS) && ((decide (J.length ≤ 64) && J.all gS) && (decide (I.length ≤ 1536) && I.all gI))))) := rfl
  have hE := rEpoch_any e
  have h1 := fun W (hb : Below w.heap.size w W) => rSeats_any aL cL L W (rL.later hb) nL
  have h2 := fun W (hb : Below w.heap.size w W) => rSeats_any aJ cJ J W (rJ.later hb) nJ
  obtain ⟨b1, e1⟩ : ∃ b, (decide (L.length ≤ 64) && L.all gS) = b := ⟨_, rfl⟩
  obtain ⟨b2, e2⟩ : ∃ b, (decide (J.length ≤ 64) && J.all gS) = b := ⟨_, rfl⟩
  obtain ⟨b0, e0⟩ : ∃ b, gE e = b := ⟨_, rfl⟩
  simp only [e0, e1, e2] at HG h1 h2 hE
  rw [HG.out]
  clear HG e0 e1 e2 rL rJ
  generalize L.length = n1 at *
  generalize J.length = n2 at *
  obtain ⟨n3, hn3⟩ : ∃ n, I.length = n := ⟨_, rfl⟩
  have HN : Hid (I.length = n3) := hn3
  rw [hn3] at nI
  rw [hn3]
  clear hn3
  unfold rkl
  have hR := heap_alloc_last w (.cells #[.int .i64 e, .slice aL n1 cL, .slice aJ n2 cJ, .slice aI n3 cI] 25)
  have hB := below_alloc w (.cells #[.int .i64 e, .slice aL n1 cL, .slice aJ n2 cJ, .slice aI n3 cI] 25)
  go_enter Tryz.func24, Tryz.ntmps24
  go_upto_region 1 with (fail)
  generalize w.alloc (.cells #[.int .i64 e, .slice aL n1 cL, .slice aJ n2 cJ, .slice aI n3 cI] 25) = w1 at *
  obtain ⟨B, hBe⟩ : ∃ B, w.heap.size = B := ⟨_, rfl⟩
  rw [hBe] at hR ⊢
  clear hBe
  obtain ⟨c0, c1, c2, c3⟩ := c4 hR
  have HB : Hid (Below w.heap.size w w1) := hB
  clear hB
  go_wp2_with fail
  refine (hE _).mono ?_
  rintro q w2 ⟨rfl, rfl⟩
  cases b0 with
  | false =>
    go_wp2_with fail
    go_ret
    exact ⟨rfl, HB.out⟩
  | true =>
    go_wp2_with fail
    refine (h1 _ HB.out).mono ?_
    rintro q w2 ⟨rfl, hb2⟩
    have hR2 := row_later hR hb2
    have HB2 : Hid (Below w.heap.size w w2) := Below.join HB.out hb2
    clear c0 c1 c2 c3 hb2 hR HB h1
    obtain ⟨c0, c1, c2, c3⟩ := c4 hR2
    cases b1 with
    | false =>
      go_wp2_with fail
      go_ret
      exact ⟨rfl, HB2.out⟩
    | true =>
      go_wp2_with fail
      refine (h2 _ HB2.out).mono ?_
      rintro q w3 ⟨rfl, hb3⟩
      have hR3 := row_later hR2 hb3
      have HB3 : Hid (Below w.heap.size w w3) := Below.join HB2.out hb3
      clear c0 c1 c2 c3 hb3 hR2 HB2 h2
      obtain ⟨c0, c1, c2, c3⟩ := c4 hR3
      cases b2 with
      | false =>
        go_wp2_with fail
        go_ret
        exact ⟨rfl, HB3.out⟩
      | true =>
        by_cases h15 : n3 ≤ 1536
        · have d1 : decide ((1536 : Int) < (n3 : Int)) = false := by simp; omega
          have d2 : ¬ (1536 : Int) < (n3 : Int) := by omega
          have HF : Hid ((true && (true && (true && (decide (n3 ≤ 1536) && I.all gI)))) = I.all gI) := by unfold Hid; rw [decide_eq_true h15]; rfl
          go_wp2_with fail
          go_loopw [30] (fun i wx => ∃ k : Nat, k ≤ n3 ∧ i = .int .i64 (k : Int) ∧ (∀ x ∈ I.take k, gI x = true) ∧ Below w.heap.size w wx) (fun i _ => n3 - (intOf i).toNat)
          case atStart => exact ⟨0, by omega, rfl, by simp, HB3.out⟩
          case round =>
            obtain ⟨k, hk, rfl, hA, hb⟩ := hrel
            have HA : Hid (∀ x ∈ I.take k, gI x = true) := hA
            have HBr : Hid (Below w.heap.size w wr) := hb
            clear hA hb c0 c1 c2 c3
            by_cases hkn : k < n3
            · have hkl : k < I.length := by rw [HN.out]; exact hkn
              obtain ⟨b, o, rfl, hr⟩ := rI k hkl
              have hr := ra_later hr HBr.out
              unfold itl at hr
              have i1 : (0 : Int) ≤ (k : Int) := by omega
              have i2 : (k : Int) < (n3 : Int) := by omega
              have HNO : Hid (gI I[k] = false → I.all gI = false) := fun h => all_no hkl h
              have HYE : Hid (gI I[k] = true → ∀ x ∈ I.take (k + 1), gI x = true) := fun h => all_nx hkl HA.out h
              generalize I[k] = p at *
              obtain ⟨⟨v, u⟩, bx⟩ := p
              dsimp only at hr
              clear hkl
              by_cases v0 : 0 ≤ v
              · by_cases v1 : v < 21
                · have HGI : Hid (gI ((v, u), bx) = (dpr v u && gB bx)) := gI_yes1 v0 v1
                  have v0' : ¬ v < 0 := by omega
                  have v1' : ¬ 21 ≤ v := by omega
                  by_cases huv : u = v
                  · subst huv
                    have HX : Hid (I.all gI = false) := HNO.out (by rw [HGI.out]; unfold dpr; simp)
                    have d3 : (u == u) = true := by simp
                    go_wp2_with (refine ldM hr Tryz.underlying53 rfl szItem _ rfl rfl rfl ?_)
                    go_ret
                    exact ⟨ret_bool (by first | (rw [HF.out, HX.out]) | exact HX.out.symm | (rw [HX.out])), Below.plus HBr.out _⟩
                  · have d3 : (u == v) = false := by simp [huv]
                    have d4 : decide (u = v) = false := by simp [huv]
                    have hbl := Sh.rBelow_any v u
                    have HDP : Hid (dpr v u = belB v u) := by unfold Hid dpr; rw [decide_eq_true huv, Bool.and_true]
                    cases hq : belB v u with
                    | false =>
                      rw [hq] at hbl
                      have HX : Hid (I.all gI = false) := HNO.out (by rw [HGI.out, HDP.out, hq]; rfl)
                      clear hq
                      go_wp2_with (first | (refine ldM hr Tryz.underlying53 rfl szItem _ rfl rfl rfl ?_) | (go_at_call 58; refine (hbl _).mono ?_; rintro r w' ⟨rfl, rfl⟩))
                      go_ret
                      exact ⟨ret_bool (by first | (rw [HF.out, HX.out]) | exact HX.out.symm | (rw [HX.out])), Below.plus HBr.out _⟩
                    | true =>
                      rw [hq] at hbl
                      have HG2 : Hid (gI ((v, u), bx) = gB bx) := by unfold Hid; rw [HGI.out, HDP.out, hq]; rfl
                      have hgb := rGoodBox_any bx
                      clear hq
                      cases hgx : gB bx with
                      | false =>
                        rw [hgx] at hgb
                        have HX : Hid (I.all gI = false) := HNO.out (by rw [HG2.out, hgx])
                        clear hgx
                        go_wp2_with (first | (refine ldM hr Tryz.underlying53 rfl szItem _ rfl rfl rfl ?_) | (go_at_call 58; refine (hbl _).mono ?_; rintro r w' ⟨rfl, rfl⟩))
                        refine (hgb _).mono ?_
                        rintro q w5 ⟨rfl, hb5⟩
                        have HB5 : Hid (Below w.heap.size w w5) := Below.join (Below.plus HBr.out _) hb5
                        clear hb5 hgb
                        go_wp2_with fail
                        go_ret
                        exact ⟨ret_bool (by first | (rw [HF.out, HX.out]) | exact HX.out.symm | (rw [HX.out])), HB5.out⟩
                      | true =>
                        rw [hgx] at hgb
                        have HX : Hid (∀ x ∈ I.take (k + 1), gI x = true) := HYE.out (by rw [HG2.out, hgx])
                        clear hgx
                        go_wp2_with (first | (refine ldM hr Tryz.underlying53 rfl szItem _ rfl rfl rfl ?_) | (go_at_call 58; refine (hbl _).mono ?_; rintro r w' ⟨rfl, rfl⟩))
                        refine (hgb _).mono ?_
                        rintro q w5 ⟨rfl, hb5⟩
                        have HB5 : Hid (Below w.heap.size w w5) := Below.join (Below.plus HBr.out _) hb5
                        clear hb5 hgb
                        go_wp2_with fail
                        go_roundw
                        case rel => exact ⟨k + 1, by omega, by go_num, HX.out, HB5.out⟩
                        case measure => simp [intOf]; omega
                · have HX : Hid (I.all gI = false) := HNO.out (gI_no1 (by dsimp only; omega))
                  have v0' : ¬ v < 0 := by omega
                  have v1' : 21 ≤ v := by omega
                  go_wp2_with (refine ldM hr Tryz.underlying53 rfl szItem _ rfl rfl rfl ?_)
                  go_ret
                  exact ⟨ret_bool (by first | (rw [HF.out, HX.out]) | exact HX.out.symm | (rw [HX.out])), Below.plus HBr.out _⟩
              · have HX : Hid (I.all gI = false) := HNO.out (gI_no1 (by dsimp only; omega))
                have v0' : v < 0 := by omega
                go_wp2_with (refine ldM hr Tryz.underlying53 rfl szItem _ rfl rfl rfl ?_)
                go_ret
                exact ⟨ret_bool (by first | (rw [HF.out, HX.out]) | exact HX.out.symm | (rw [HX.out])), Below.plus HBr.out _⟩
            · have hkn' : decide ((k : Int) < (n3 : Int)) = false := by simp; omega
              have HX : Hid (I.all gI = true) := all_yes (by rw [HN.out]; have : k = n3 := by omega
                                                             rw [← this]; exact HA.out)
              go_wp2_with fail
              go_ret
              exact ⟨ret_bool (by first | (rw [HF.out, HX.out]) | exact HX.out.symm | (rw [HX.out])), HBr.out⟩
        · have d1 : (1536 : Int) < (n3 : Int) := by omega
          have HF : Hid ((true && (true && (true && (decide (n3 ≤ 1536) && I.all gI)))) = false) := by unfold Hid; rw [decide_eq_false h15]; rfl
          go_wp2_with fail
          go_ret
          exact ⟨ret_bool HF.out.symm, HB3.out⟩
end Go.Proofs.YtdkfifnhmfbagaaGreat.Wi
/- Contract: the document's Good. -/
namespace Go.Proofs.YtdkfifnhmfbagaaGreat.Wi
open Go.RowKit Go.Maps
set_option linter.unusedVariables false
set_option linter.unusedSimpArgs false

set_option maxRecDepth 100000 in
set_option maxHeartbeats 2000000 in
theorem rGood_1 (m : Msg) (aL aJ aI : Option Addr) (cL cJ cI : Nat) (w : World) (hr : MR w m aL aJ aI) (hkd : m.kd = 1) :
    Calls Tryz.prog 7 #[.agg (mgv m aL aJ aI cL cJ cI).toArray] w fun e w' => e = .returned (.bool (gM m)) ∧ Below w.heap.size w w' := by
  unfold mgv
  have hsm := fun W (hb : Below w.heap.size w W) => sameR_any m.rk zR aL aJ aI none none none cL cJ cI 0 0 0 W (hr.l.later hb) (hr.j.later hb) (hr.i.later hb) (RdV.nil _ _ _ _) (RdV.nil _ _ _ _) (RdV.nil _ _ _ _) hr.nl hr.nj hr.ni (by show (0 : Nat) < _; decide) (by show (0 : Nat) < _; decide) (by show (0 : Nat) < _; decide)
  have HR : Hid (MR w m aL aJ aI) := hr
  clear hr
  have eq1 := fun W => run_eqPr 27 (w := W) 9998 m.rq zQ (.inr (.inr rfl))
  have eq2 := fun W => run_eqRp (w := W) 9995 m.rp zP
  have eq3 := fun W => run_eqSd (w := W) 9997 m.sd zD
  have hM : MgAt (w.alloc (.cells (mgl m (.slice aL m.rk.2.1.length cL) (.slice aJ m.rk.2.2.1.length cJ) (.slice aI m.rk.2.2.2.length cI)).toArray 38)) w.heap.size m (.slice aL m.rk.2.1.length cL) (.slice aJ m.rk.2.2.1.length cJ) (.slice aI m.rk.2.2.2.length cI) := heap_alloc_last w _
  have hB := below_alloc w (.cells (mgl m (.slice aL m.rk.2.1.length cL) (.slice aJ m.rk.2.2.1.length cJ) (.slice aI m.rk.2.2.2.length cI)).toArray 38)
  obtain ⟨nL, hnL⟩ : ∃ n, m.rk.2.1.length = n := ⟨_, rfl⟩
  obtain ⟨nJ, hnJ⟩ : ∃ n, m.rk.2.2.1.length = n := ⟨_, rfl⟩
  obtain ⟨nI, hnI⟩ : ∃ n, m.rk.2.2.2.length = n := ⟨_, rfl⟩
  have HEQ : Hid (m.rk.2.1.length = nL ∧ m.rk.2.2.1.length = nJ ∧ m.rk.2.2.2.length = nI) := ⟨hnL, hnJ, hnI⟩
  simp only [hnL, hnJ, hnI] at hsm hM hB
  rw [hnL, hnJ, hnI]
  clear hnL hnJ hnI
  obtain ⟨ct, hct⟩ : ∃ c, (mgl m (.slice aL nL cL) (.slice aJ nJ cJ) (.slice aI nI cI)).toArray = c := ⟨_, rfl⟩
  rw [hct] at hB
  rw [hct]
  have HM : Hid (MgAt (w.alloc (.cells ct 38)) w.heap.size m (.slice aL nL cL) (.slice aJ nJ cJ) (.slice aI nI cI)) := by have h := hM; rw [hct] at h; exact h
  clear hM hct
  obtain ⟨nr, hnr⟩ : ∃ b, nR m.rk = b := ⟨_, rfl⟩
  have HNR : Hid (nR m.rk = nr) := hnr
  have HG : Hid (gM m = (gR m.rk && (decide (m.rq = zQ) && (decide (m.rp = zP) && decide (m.sd = zD))))) := by unfold Hid gM; rw [if_pos hkd]
  have hP := fun W (hb : Below w.heap.size w W) => rRekey_any m.rk aL aJ aI cL cJ cI W (HR.out.l.later hb) (HR.out.j.later hb) (HR.out.i.later hb) HR.out.nl HR.out.nj HR.out.ni
  simp only [HEQ.out.1, HEQ.out.2.1, HEQ.out.2.2] at hP
  generalize decide (m.rq = zQ) = g1 at *
  generalize decide (m.rp = zP) = g2 at *
  generalize decide (m.sd = zD) = g3 at *
  generalize gR m.rk = g0 at *
  rw [HG.out]
  clear HG
  clear hnr
  go_enter Tryz.func7, Tryz.ntmps7
  go_upto_region 1 with (fail)
  generalize w.alloc (.cells ct 38) = w1 at *
  obtain ⟨B, hBe⟩ : ∃ B, w.heap.size = B := ⟨_, rfl⟩
  rw [hBe] at HM ⊢
  clear hBe
  have HB : Hid (Below w.heap.size w w1) := hB
  clear hB
  have HK : Hid (w1.rangeAt B 1 (rkl m.rk.1 (.slice aL nL cL) (.slice aJ nJ cJ) (.slice aI nI cI))) := HM.out.rk
  have hsm := hsm w1 HB.out
  go_wp2_with (refine ldM HK.out Tryz.underlying25 rfl szRk _ rfl rfl rfl ?_)
  refine hsm.mono ?_
  rintro q w2 ⟨⟨bn, rfl, hbn⟩, hb2⟩
  obtain rfl : bn = nr := by
    have h2 : nR m.rk = true ↔ m.rk = zR := nR_iff
    rw [Bool.eq_iff_iff, hbn, ← HNR.out, h2]
  have HM2 : Hid (MgAt w2 B m (.slice aL nL cL) (.slice aJ nJ cJ) (.slice aI nI cI)) := HM.out.later hb2
  have HB2 : Hid (Below w.heap.size w w2) := Below.join HB.out hb2
  clear hsm hb2 HM HB HK hbn
  have ck := HM2.out.kind
  rw [hkd] at ck
  clear hkd
  have H1 : Hid (w2.rangeAt B 5 (stl m.rq)) := HM2.out.rq
  have H2 : Hid (w2.rangeAt B 7 (rpl m.rp)) := HM2.out.rp
  have H3 : Hid (w2.rangeAt B 22 (sdl m.sd)) := HM2.out.sd
  have EQ1 : Hid _ := eq1
  have EQ2 : Hid _ := eq2
  have EQ3 : Hid _ := eq3
  clear eq1 eq2 eq3
  have eq1 := EQ1.out w2
  have eq2 := EQ2.out w2
  have eq3 := EQ3.out w2
  have HK : Hid (w2.rangeAt B 1 (rkl m.rk.1 (.slice aL nL cL) (.slice aJ nJ cJ) (.slice aI nI cI))) := HM2.out.rk
  have hP := hP w2 HB2.out
  go_wp2_with (first | (refine ldM HK.out Tryz.underlying25 rfl szRk _ rfl rfl rfl ?_) | (refine ldM H1.out Tryz.underlying27 rfl szRq _ rfl rfl rfl ?_) | (refine eqX eq1 Tryz.eqGuardType27 _ _ rfl rfl rfl rfl ?_) | (refine ldM H2.out Tryz.underlying34 rfl szRp _ rfl rfl rfl ?_) | (refine eqX eq2 Tryz.eqGuardType34 _ _ rfl rfl rfl rfl ?_) | (refine ldM H3.out Tryz.underlying36 rfl szSd _ rfl rfl rfl ?_) | (refine eqX eq3 Tryz.eqGuardType36 _ _ rfl rfl rfl rfl ?_))
  refine hP.mono ?_
  rintro q w3 ⟨rfl, hb3⟩
  have hM3 := HM2.out.later hb3
  have HB3 : Hid (Below w.heap.size w w3) := Below.join HB2.out hb3
  clear H1 H2 H3 eq1 eq2 eq3 HK hP hb3 HM2
  have H1 : Hid (w3.rangeAt B 5 (stl m.rq)) := hM3.rq
  have H2 : Hid (w3.rangeAt B 7 (rpl m.rp)) := hM3.rp
  have H3 : Hid (w3.rangeAt B 22 (sdl m.sd)) := hM3.sd
  have eq1 := EQ1.out w3
  have eq2 := EQ2.out w3
  have eq3 := EQ3.out w3
  clear hM3
  cases g0 with
  | false =>
    go_wp2_with fail
    go_ret
    exact ⟨rfl, HB3.out⟩
  | true =>
    cases g1 with
    | false =>
      go_wp2_with (first | (refine ldM H1.out Tryz.underlying27 rfl szRq _ rfl rfl rfl ?_) | (refine eqX eq1 Tryz.eqGuardType27 _ _ rfl rfl rfl rfl ?_) | (refine ldM H2.out Tryz.underlying34 rfl szRp _ rfl rfl rfl ?_) | (refine eqX eq2 Tryz.eqGuardType34 _ _ rfl rfl rfl rfl ?_) | (refine ldM H3.out Tryz.underlying36 rfl szSd _ rfl rfl rfl ?_) | (refine eqX eq3 Tryz.eqGuardType36 _ _ rfl rfl rfl rfl ?_))
      go_ret
      exact ⟨rfl, HB3.out⟩
    | true =>
      cases g2 with
      | false =>
        go_wp2_with (first | (refine ldM H1.out Tryz.underlying27 rfl szRq _ rfl rfl rfl ?_) | (refine eqX eq1 Tryz.eqGuardType27 _ _ rfl rfl rfl rfl ?_) | (refine ldM H2.out Tryz.underlying34 rfl szRp _ rfl rfl rfl ?_) | (refine eqX eq2 Tryz.eqGuardType34 _ _ rfl rfl rfl rfl ?_) | (refine ldM H3.out Tryz.underlying36 rfl szSd _ rfl rfl rfl ?_) | (refine eqX eq3 Tryz.eqGuardType36 _ _ rfl rfl rfl rfl ?_))
        go_ret
        exact ⟨rfl, HB3.out⟩
      | true =>
        go_wp2_with (first | (refine ldM H1.out Tryz.underlying27 rfl szRq _ rfl rfl rfl ?_) | (refine eqX eq1 Tryz.eqGuardType27 _ _ rfl rfl rfl rfl ?_) | (refine ldM H2.out Tryz.underlying34 rfl szRp _ rfl rfl rfl ?_) | (refine eqX eq2 Tryz.eqGuardType34 _ _ rfl rfl rfl rfl ?_) | (refine ldM H3.out Tryz.underlying36 rfl szSd _ rfl rfl rfl ?_) | (refine eqX eq3 Tryz.eqGuardType36 _ _ rfl rfl rfl rfl ?_))
        go_ret
        exact ⟨by cases g3 <;> rfl, HB3.out⟩
set_option maxRecDepth 100000 in
set_option maxHeartbeats 2000000 in
theorem rGood_2 (m : Msg) (aL aJ aI : Option Addr) (cL cJ cI : Nat) (w : World) (hr : MR w m aL aJ aI) (hkd : m.kd = 2) :
    Calls Tryz.prog 7 #[.agg (mgv m aL aJ aI cL cJ cI).toArray] w fun e w' => e = .returned (.bool (gM m)) ∧ Below w.heap.size w w' := by
  unfold mgv
  have hsm := fun W (hb : Below w.heap.size w W) => sameR_any m.rk zR aL aJ aI none none none cL cJ cI 0 0 0 W (hr.l.later hb) (hr.j.later hb) (hr.i.later hb) (RdV.nil _ _ _ _) (RdV.nil _ _ _ _) (RdV.nil _ _ _ _) hr.nl hr.nj hr.ni (by show (0 : Nat) < _; decide) (by show (0 : Nat) < _; decide) (by show (0 : Nat) < _; decide)
  have HR : Hid (MR w m aL aJ aI) := hr
  clear hr
  have eq1 := fun W => run_eqPr 27 (w := W) 9998 m.rq zQ (.inr (.inr rfl))
  have eq2 := fun W => run_eqRp (w := W) 9995 m.rp zP
  have eq3 := fun W => run_eqSd (w := W) 9997 m.sd zD
  have hM : MgAt (w.alloc (.cells (mgl m (.slice aL m.rk.2.1.length cL) (.slice aJ m.rk.2.2.1.length cJ) (.slice aI m.rk.2.2.2.length cI)).toArray 38)) w.heap.size m (.slice aL m.rk.2.1.length cL) (.slice aJ m.rk.2.2.1.length cJ) (.slice aI m.rk.2.2.2.length cI) := heap_alloc_last w _
  have hB := below_alloc w (.cells (mgl m (.slice aL m.rk.2.1.length cL) (.slice aJ m.rk.2.2.1.length cJ) (.slice aI m.rk.2.2.2.length cI)).toArray 38)
  obtain ⟨nL, hnL⟩ : ∃ n, m.rk.2.1.length = n := ⟨_, rfl⟩
  obtain ⟨nJ, hnJ⟩ : ∃ n, m.rk.2.2.1.length = n := ⟨_, rfl⟩
  obtain ⟨nI, hnI⟩ : ∃ n, m.rk.2.2.2.length = n := ⟨_, rfl⟩
  have HEQ : Hid (m.rk.2.1.length = nL ∧ m.rk.2.2.1.length = nJ ∧ m.rk.2.2.2.length = nI) := ⟨hnL, hnJ, hnI⟩
  simp only [hnL, hnJ, hnI] at hsm hM hB
  rw [hnL, hnJ, hnI]
  clear hnL hnJ hnI
  obtain ⟨ct, hct⟩ : ∃ c, (mgl m (.slice aL nL cL) (.slice aJ nJ cJ) (.slice aI nI cI)).toArray = c := ⟨_, rfl⟩
  rw [hct] at hB
  rw [hct]
  have HM : Hid (MgAt (w.alloc (.cells ct 38)) w.heap.size m (.slice aL nL cL) (.slice aJ nJ cJ) (.slice aI nI cI)) := by have h := hM; rw [hct] at h; exact h
  clear hM hct
  obtain ⟨nr, hnr⟩ : ∃ b, nR m.rk = b := ⟨_, rfl⟩
  have HNR : Hid (nR m.rk = nr) := hnr
  have HG : Hid (gM m = (nr && (gQ m.rq && (decide (m.rp = zP) && decide (m.sd = zD))))) := by unfold Hid gM; rw [if_neg (by omega), if_pos hkd, hnr]
  have hP := rRequest_any m.rq
  generalize decide (m.rp = zP) = g2 at *
  generalize decide (m.sd = zD) = g3 at *
  generalize gQ m.rq = g0 at *
  rw [HG.out]
  clear HG
  clear hnr
  go_enter Tryz.func7, Tryz.ntmps7
  go_upto_region 1 with (fail)
  generalize w.alloc (.cells ct 38) = w1 at *
  obtain ⟨B, hBe⟩ : ∃ B, w.heap.size = B := ⟨_, rfl⟩
  rw [hBe] at HM ⊢
  clear hBe
  have HB : Hid (Below w.heap.size w w1) := hB
  clear hB
  have HK : Hid (w1.rangeAt B 1 (rkl m.rk.1 (.slice aL nL cL) (.slice aJ nJ cJ) (.slice aI nI cI))) := HM.out.rk
  have hsm := hsm w1 HB.out
  go_wp2_with (refine ldM HK.out Tryz.underlying25 rfl szRk _ rfl rfl rfl ?_)
  refine hsm.mono ?_
  rintro q w2 ⟨⟨bn, rfl, hbn⟩, hb2⟩
  obtain rfl : bn = nr := by
    have h2 : nR m.rk = true ↔ m.rk = zR := nR_iff
    rw [Bool.eq_iff_iff, hbn, ← HNR.out, h2]
  have HM2 : Hid (MgAt w2 B m (.slice aL nL cL) (.slice aJ nJ cJ) (.slice aI nI cI)) := HM.out.later hb2
  have HB2 : Hid (Below w.heap.size w w2) := Below.join HB.out hb2
  clear hsm hb2 HM HB HK hbn
  have ck := HM2.out.kind
  rw [hkd] at ck
  clear hkd
  have H1 : Hid (w2.rangeAt B 5 (stl m.rq)) := HM2.out.rq
  have H2 : Hid (w2.rangeAt B 7 (rpl m.rp)) := HM2.out.rp
  have H3 : Hid (w2.rangeAt B 22 (sdl m.sd)) := HM2.out.sd
  have EQ1 : Hid _ := eq1
  have EQ2 : Hid _ := eq2
  have EQ3 : Hid _ := eq3
  clear eq1 eq2 eq3
  have eq1 := EQ1.out w2
  have eq2 := EQ2.out w2
  have eq3 := EQ3.out w2
  cases bn with
  | false =>
    go_wp2_with fail
    go_ret
    exact ⟨rfl, HB2.out⟩
  | true =>
    go_wp2_with (first | (refine ldM H1.out Tryz.underlying27 rfl szRq _ rfl rfl rfl ?_) | (refine eqX eq1 Tryz.eqGuardType27 _ _ rfl rfl rfl rfl ?_) | (refine ldM H2.out Tryz.underlying34 rfl szRp _ rfl rfl rfl ?_) | (refine eqX eq2 Tryz.eqGuardType34 _ _ rfl rfl rfl rfl ?_) | (refine ldM H3.out Tryz.underlying36 rfl szSd _ rfl rfl rfl ?_) | (refine eqX eq3 Tryz.eqGuardType36 _ _ rfl rfl rfl rfl ?_))
    refine (hP _).mono ?_
    rintro q w3 ⟨rfl, hb3⟩
    have hM3 := HM2.out.later hb3
    have HB3 : Hid (Below w.heap.size w w3) := Below.join HB2.out hb3
    clear H1 H2 H3 eq1 eq2 eq3 hP hb3 HM2
    have H1 : Hid (w3.rangeAt B 5 (stl m.rq)) := hM3.rq
    have H2 : Hid (w3.rangeAt B 7 (rpl m.rp)) := hM3.rp
    have H3 : Hid (w3.rangeAt B 22 (sdl m.sd)) := hM3.sd
    have eq1 := EQ1.out w3
    have eq2 := EQ2.out w3
    have eq3 := EQ3.out w3
    clear hM3
    cases g0 with
    | false =>
      go_wp2_with fail
      go_ret
      exact ⟨rfl, HB3.out⟩
    | true =>
      cases g2 with
      | false =>
        go_wp2_with (first | (refine ldM H1.out Tryz.underlying27 rfl szRq _ rfl rfl rfl ?_) | (refine eqX eq1 Tryz.eqGuardType27 _ _ rfl rfl rfl rfl ?_) | (refine ldM H2.out Tryz.underlying34 rfl szRp _ rfl rfl rfl ?_) | (refine eqX eq2 Tryz.eqGuardType34 _ _ rfl rfl rfl rfl ?_) | (refine ldM H3.out Tryz.underlying36 rfl szSd _ rfl rfl rfl ?_) | (refine eqX eq3 Tryz.eqGuardType36 _ _ rfl rfl rfl rfl ?_))
        go_ret
        exact ⟨rfl, HB3.out⟩
      | true =>
        go_wp2_with (first | (refine ldM H1.out Tryz.underlying27 rfl szRq _ rfl rfl rfl ?_) | (refine eqX eq1 Tryz.eqGuardType27 _ _ rfl rfl rfl rfl ?_) | (refine ldM H2.out Tryz.underlying34 rfl szRp _ rfl rfl rfl ?_) | (refine eqX eq2 Tryz.eqGuardType34 _ _ rfl rfl rfl rfl ?_) | (refine ldM H3.out Tryz.underlying36 rfl szSd _ rfl rfl rfl ?_) | (refine eqX eq3 Tryz.eqGuardType36 _ _ rfl rfl rfl rfl ?_))
        go_ret
        exact ⟨by cases g3 <;> rfl, HB3.out⟩
set_option maxRecDepth 100000 in
set_option maxHeartbeats 2000000 in
theorem rGood_3 (m : Msg) (aL aJ aI : Option Addr) (cL cJ cI : Nat) (w : World) (hr : MR w m aL aJ aI) (hkd : m.kd = 3) :
    Calls Tryz.prog 7 #[.agg (mgv m aL aJ aI cL cJ cI).toArray] w fun e w' => e = .returned (.bool (gM m)) ∧ Below w.heap.size w w' := by
  unfold mgv
  have hsm := fun W (hb : Below w.heap.size w W) => sameR_any m.rk zR aL aJ aI none none none cL cJ cI 0 0 0 W (hr.l.later hb) (hr.j.later hb) (hr.i.later hb) (RdV.nil _ _ _ _) (RdV.nil _ _ _ _) (RdV.nil _ _ _ _) hr.nl hr.nj hr.ni (by show (0 : Nat) < _; decide) (by show (0 : Nat) < _; decide) (by show (0 : Nat) < _; decide)
  have HR : Hid (MR w m aL aJ aI) := hr
  clear hr
  have eq1 := fun W => run_eqPr 27 (w := W) 9998 m.rq zQ (.inr (.inr rfl))
  have eq2 := fun W => run_eqRp (w := W) 9995 m.rp zP
  have eq3 := fun W => run_eqSd (w := W) 9997 m.sd zD
  have hM : MgAt (w.alloc (.cells (mgl m (.slice aL m.rk.2.1.length cL) (.slice aJ m.rk.2.2.1.length cJ) (.slice aI m.rk.2.2.2.length cI)).toArray 38)) w.heap.size m (.slice aL m.rk.2.1.length cL) (.slice aJ m.rk.2.2.1.length cJ) (.slice aI m.rk.2.2.2.length cI) := heap_alloc_last w _
  have hB := below_alloc w (.cells (mgl m (.slice aL m.rk.2.1.length cL) (.slice aJ m.rk.2.2.1.length cJ) (.slice aI m.rk.2.2.2.length cI)).toArray 38)
  obtain ⟨nL, hnL⟩ : ∃ n, m.rk.2.1.length = n := ⟨_, rfl⟩
  obtain ⟨nJ, hnJ⟩ : ∃ n, m.rk.2.2.1.length = n := ⟨_, rfl⟩
  obtain ⟨nI, hnI⟩ : ∃ n, m.rk.2.2.2.length = n := ⟨_, rfl⟩
  have HEQ : Hid (m.rk.2.1.length = nL ∧ m.rk.2.2.1.length = nJ ∧ m.rk.2.2.2.length = nI) := ⟨hnL, hnJ, hnI⟩
  simp only [hnL, hnJ, hnI] at hsm hM hB
  rw [hnL, hnJ, hnI]
  clear hnL hnJ hnI
  obtain ⟨ct, hct⟩ : ∃ c, (mgl m (.slice aL nL cL) (.slice aJ nJ cJ) (.slice aI nI cI)).toArray = c := ⟨_, rfl⟩
  rw [hct] at hB
  rw [hct]
  have HM : Hid (MgAt (w.alloc (.cells ct 38)) w.heap.size m (.slice aL nL cL) (.slice aJ nJ cJ) (.slice aI nI cI)) := by have h := hM; rw [hct] at h; exact h
  clear hM hct
  obtain ⟨nr, hnr⟩ : ∃ b, nR m.rk = b := ⟨_, rfl⟩
  have HNR : Hid (nR m.rk = nr) := hnr
  have HG : Hid (gM m = (nr && (decide (m.rq = zQ) && (gP m.rp && decide (m.sd = zD))))) := by unfold Hid gM; rw [if_neg (by omega), if_neg (by omega), if_pos hkd, hnr]
  have hP := rReply_any m.rp
  generalize decide (m.rq = zQ) = g1 at *
  generalize decide (m.sd = zD) = g3 at *
  generalize gP m.rp = g0 at *
  rw [HG.out]
  clear HG
  clear hnr
  go_enter Tryz.func7, Tryz.ntmps7
  go_upto_region 1 with (fail)
  generalize w.alloc (.cells ct 38) = w1 at *
  obtain ⟨B, hBe⟩ : ∃ B, w.heap.size = B := ⟨_, rfl⟩
  rw [hBe] at HM ⊢
  clear hBe
  have HB : Hid (Below w.heap.size w w1) := hB
  clear hB
  have HK : Hid (w1.rangeAt B 1 (rkl m.rk.1 (.slice aL nL cL) (.slice aJ nJ cJ) (.slice aI nI cI))) := HM.out.rk
  have hsm := hsm w1 HB.out
  go_wp2_with (refine ldM HK.out Tryz.underlying25 rfl szRk _ rfl rfl rfl ?_)
  refine hsm.mono ?_
  rintro q w2 ⟨⟨bn, rfl, hbn⟩, hb2⟩
  obtain rfl : bn = nr := by
    have h2 : nR m.rk = true ↔ m.rk = zR := nR_iff
    rw [Bool.eq_iff_iff, hbn, ← HNR.out, h2]
  have HM2 : Hid (MgAt w2 B m (.slice aL nL cL) (.slice aJ nJ cJ) (.slice aI nI cI)) := HM.out.later hb2
  have HB2 : Hid (Below w.heap.size w w2) := Below.join HB.out hb2
  clear hsm hb2 HM HB HK hbn
  have ck := HM2.out.kind
  rw [hkd] at ck
  clear hkd
  have H1 : Hid (w2.rangeAt B 5 (stl m.rq)) := HM2.out.rq
  have H2 : Hid (w2.rangeAt B 7 (rpl m.rp)) := HM2.out.rp
  have H3 : Hid (w2.rangeAt B 22 (sdl m.sd)) := HM2.out.sd
  have EQ1 : Hid _ := eq1
  have EQ2 : Hid _ := eq2
  have EQ3 : Hid _ := eq3
  clear eq1 eq2 eq3
  have eq1 := EQ1.out w2
  have eq2 := EQ2.out w2
  have eq3 := EQ3.out w2
  cases bn with
  | false =>
    go_wp2_with fail
    go_ret
    exact ⟨rfl, HB2.out⟩
  | true =>
    cases g1 with
    | false =>
      go_wp2_with (first | (refine ldM H1.out Tryz.underlying27 rfl szRq _ rfl rfl rfl ?_) | (refine eqX eq1 Tryz.eqGuardType27 _ _ rfl rfl rfl rfl ?_) | (refine ldM H2.out Tryz.underlying34 rfl szRp _ rfl rfl rfl ?_) | (refine eqX eq2 Tryz.eqGuardType34 _ _ rfl rfl rfl rfl ?_) | (refine ldM H3.out Tryz.underlying36 rfl szSd _ rfl rfl rfl ?_) | (refine eqX eq3 Tryz.eqGuardType36 _ _ rfl rfl rfl rfl ?_))
      go_ret
      exact ⟨rfl, HB2.out⟩
    | true =>
      go_wp2_with (first | (refine ldM H1.out Tryz.underlying27 rfl szRq _ rfl rfl rfl ?_) | (refine eqX eq1 Tryz.eqGuardType27 _ _ rfl rfl rfl rfl ?_) | (refine ldM H2.out Tryz.underlying34 rfl szRp _ rfl rfl rfl ?_) | (refine eqX eq2 Tryz.eqGuardType34 _ _ rfl rfl rfl rfl ?_) | (refine ldM H3.out Tryz.underlying36 rfl szSd _ rfl rfl rfl ?_) | (refine eqX eq3 Tryz.eqGuardType36 _ _ rfl rfl rfl rfl ?_))
      refine (hP _).mono ?_
      rintro q w3 ⟨rfl, hb3⟩
      have hM3 := HM2.out.later hb3
      have HB3 : Hid (Below w.heap.size w w3) := Below.join HB2.out hb3
      clear H1 H2 H3 eq1 eq2 eq3 hP hb3 HM2
      have H1 : Hid (w3.rangeAt B 5 (stl m.rq)) := hM3.rq
      have H2 : Hid (w3.rangeAt B 7 (rpl m.rp)) := hM3.rp
      have H3 : Hid (w3.rangeAt B 22 (sdl m.sd)) := hM3.sd
      have eq1 := EQ1.out w3
      have eq2 := EQ2.out w3
      have eq3 := EQ3.out w3
      clear hM3
      cases g0 with
      | false =>
        go_wp2_with fail
        go_ret
        exact ⟨rfl, HB3.out⟩
      | true =>
        go_wp2_with (first | (refine ldM H1.out Tryz.underlying27 rfl szRq _ rfl rfl rfl ?_) | (refine eqX eq1 Tryz.eqGuardType27 _ _ rfl rfl rfl rfl ?_) | (refine ldM H2.out Tryz.underlying34 rfl szRp _ rfl rfl rfl ?_) | (refine eqX eq2 Tryz.eqGuardType34 _ _ rfl rfl rfl rfl ?_) | (refine ldM H3.out Tryz.underlying36 rfl szSd _ rfl rfl rfl ?_) | (refine eqX eq3 Tryz.eqGuardType36 _ _ rfl rfl rfl rfl ?_))
        go_ret
        exact ⟨by cases g3 <;> rfl, HB3.out⟩
set_option maxRecDepth 100000 in
set_option maxHeartbeats 2000000 in
theorem rGood_4 (m : Msg) (aL aJ aI : Option Addr) (cL cJ cI : Nat) (w : World) (hr : MR w m aL aJ aI) (hkd : m.kd = 4) :
    Calls Tryz.prog 7 #[.agg (mgv m aL aJ aI cL cJ cI).toArray] w fun e w' => e = .returned (.bool (gM m)) ∧ Below w.heap.size w w' := by
  unfold mgv
  have hsm := fun W (hb : Below w.heap.size w W) => sameR_any m.rk zR aL aJ aI none none none cL cJ cI 0 0 0 W (hr.l.later hb) (hr.j.later hb) (hr.i.later hb) (RdV.nil _ _ _ _) (RdV.nil _ _ _ _) (RdV.nil _ _ _ _) hr.nl hr.nj hr.ni (by show (0 : Nat) < _; decide) (by show (0 : Nat) < _; decide) (by show (0 : Nat) < _; decide)
  have HR : Hid (MR w m aL aJ aI) := hr
  clear hr
  have eq1 := fun W => run_eqPr 27 (w := W) 9998 m.rq zQ (.inr (.inr rfl))
  have eq2 := fun W => run_eqRp (w := W) 9995 m.rp zP
  have eq3 := fun W => run_eqSd (w := W) 9997 m.sd zD
  have hM : MgAt (w.alloc (.cells (mgl m (.slice aL m.rk.2.1.length cL) (.slice aJ m.rk.2.2.1.length cJ) (.slice aI m.rk.2.2.2.length cI)).toArray 38)) w.heap.size m (.slice aL m.rk.2.1.length cL) (.slice aJ m.rk.2.2.1.length cJ) (.slice aI m.rk.2.2.2.length cI) := heap_alloc_last w _
  have hB := below_alloc w (.cells (mgl m (.slice aL m.rk.2.1.length cL) (.slice aJ m.rk.2.2.1.length cJ) (.slice aI m.rk.2.2.2.length cI)).toArray 38)
  obtain ⟨nL, hnL⟩ : ∃ n, m.rk.2.1.length = n := ⟨_, rfl⟩
  obtain ⟨nJ, hnJ⟩ : ∃ n, m.rk.2.2.1.length = n := ⟨_, rfl⟩
  obtain ⟨nI, hnI⟩ : ∃ n, m.rk.2.2.2.length = n := ⟨_, rfl⟩
  have HEQ : Hid (m.rk.2.1.length = nL ∧ m.rk.2.2.1.length = nJ ∧ m.rk.2.2.2.length = nI) := ⟨hnL, hnJ, hnI⟩
  simp only [hnL, hnJ, hnI] at hsm hM hB
  rw [hnL, hnJ, hnI]
  clear hnL hnJ hnI
  obtain ⟨ct, hct⟩ : ∃ c, (mgl m (.slice aL nL cL) (.slice aJ nJ cJ) (.slice aI nI cI)).toArray = c := ⟨_, rfl⟩
  rw [hct] at hB
  rw [hct]
  have HM : Hid (MgAt (w.alloc (.cells ct 38)) w.heap.size m (.slice aL nL cL) (.slice aJ nJ cJ) (.slice aI nI cI)) := by have h := hM; rw [hct] at h; exact h
  clear hM hct
  obtain ⟨nr, hnr⟩ : ∃ b, nR m.rk = b := ⟨_, rfl⟩
  have HNR : Hid (nR m.rk = nr) := hnr
  have HG : Hid (gM m = (nr && (decide (m.rq = zQ) && (decide (m.rp = zP) && gD m.sd)))) := by unfold Hid gM; rw [if_neg (by omega), if_neg (by omega), if_neg (by omega), if_pos hkd, hnr]
  have hP := fun W => rSealed_any m.sd W HR.out.ns
  generalize decide (m.rq = zQ) = g1 at *
  generalize decide (m.rp = zP) = g2 at *
  generalize gD m.sd = g0 at *
  rw [HG.out]
  clear HG
  clear hnr
  go_enter Tryz.func7, Tryz.ntmps7
  go_upto_region 1 with (fail)
  generalize w.alloc (.cells ct 38) = w1 at *
  obtain ⟨B, hBe⟩ : ∃ B, w.heap.size = B := ⟨_, rfl⟩
  rw [hBe] at HM ⊢
  clear hBe
  have HB : Hid (Below w.heap.size w w1) := hB
  clear hB
  have HK : Hid (w1.rangeAt B 1 (rkl m.rk.1 (.slice aL nL cL) (.slice aJ nJ cJ) (.slice aI nI cI))) := HM.out.rk
  have hsm := hsm w1 HB.out
  go_wp2_with (refine ldM HK.out Tryz.underlying25 rfl szRk _ rfl rfl rfl ?_)
  refine hsm.mono ?_
  rintro q w2 ⟨⟨bn, rfl, hbn⟩, hb2⟩
  obtain rfl : bn = nr := by
    have h2 : nR m.rk = true ↔ m.rk = zR := nR_iff
    rw [Bool.eq_iff_iff, hbn, ← HNR.out, h2]
  have HM2 : Hid (MgAt w2 B m (.slice aL nL cL) (.slice aJ nJ cJ) (.slice aI nI cI)) := HM.out.later hb2
  have HB2 : Hid (Below w.heap.size w w2) := Below.join HB.out hb2
  clear hsm hb2 HM HB HK hbn
  have ck := HM2.out.kind
  rw [hkd] at ck
  clear hkd
  have H1 : Hid (w2.rangeAt B 5 (stl m.rq)) := HM2.out.rq
  have H2 : Hid (w2.rangeAt B 7 (rpl m.rp)) := HM2.out.rp
  have H3 : Hid (w2.rangeAt B 22 (sdl m.sd)) := HM2.out.sd
  have EQ1 : Hid _ := eq1
  have EQ2 : Hid _ := eq2
  have EQ3 : Hid _ := eq3
  clear eq1 eq2 eq3
  have eq1 := EQ1.out w2
  have eq2 := EQ2.out w2
  have eq3 := EQ3.out w2
  cases bn with
  | false =>
    go_wp2_with fail
    go_ret
    exact ⟨rfl, HB2.out⟩
  | true =>
    cases g1 with
    | false =>
      go_wp2_with (first | (refine ldM H1.out Tryz.underlying27 rfl szRq _ rfl rfl rfl ?_) | (refine eqX eq1 Tryz.eqGuardType27 _ _ rfl rfl rfl rfl ?_) | (refine ldM H2.out Tryz.underlying34 rfl szRp _ rfl rfl rfl ?_) | (refine eqX eq2 Tryz.eqGuardType34 _ _ rfl rfl rfl rfl ?_) | (refine ldM H3.out Tryz.underlying36 rfl szSd _ rfl rfl rfl ?_) | (refine eqX eq3 Tryz.eqGuardType36 _ _ rfl rfl rfl rfl ?_))
      go_ret
      exact ⟨rfl, HB2.out⟩
    | true =>
      cases g2 with
      | false =>
        go_wp2_with (first | (refine ldM H1.out Tryz.underlying27 rfl szRq _ rfl rfl rfl ?_) | (refine eqX eq1 Tryz.eqGuardType27 _ _ rfl rfl rfl rfl ?_) | (refine ldM H2.out Tryz.underlying34 rfl szRp _ rfl rfl rfl ?_) | (refine eqX eq2 Tryz.eqGuardType34 _ _ rfl rfl rfl rfl ?_) | (refine ldM H3.out Tryz.underlying36 rfl szSd _ rfl rfl rfl ?_) | (refine eqX eq3 Tryz.eqGuardType36 _ _ rfl rfl rfl rfl ?_))
        go_ret
        exact ⟨rfl, HB2.out⟩
      | true =>
        go_wp2_with (first | (refine ldM H1.out Tryz.underlying27 rfl szRq _ rfl rfl rfl ?_) | (refine eqX eq1 Tryz.eqGuardType27 _ _ rfl rfl rfl rfl ?_) | (refine ldM H2.out Tryz.underlying34 rfl szRp _ rfl rfl rfl ?_) | (refine eqX eq2 Tryz.eqGuardType34 _ _ rfl rfl rfl rfl ?_) | (refine ldM H3.out Tryz.underlying36 rfl szSd _ rfl rfl rfl ?_) | (refine eqX eq3 Tryz.eqGuardType36 _ _ rfl rfl rfl rfl ?_))
        refine (hP _).mono ?_
        rintro q w3 ⟨rfl, hb3⟩
        have hM3 := HM2.out.later hb3
        have HB3 : Hid (Below w.heap.size w w3) := Below.join HB2.out hb3
        clear H1 H2 H3 eq1 eq2 eq3 hP hb3 HM2
        have H1 : Hid (w3.rangeAt B 5 (stl m.rq)) := hM3.rq
        have H2 : Hid (w3.rangeAt B 7 (rpl m.rp)) := hM3.rp
        have H3 : Hid (w3.rangeAt B 22 (sdl m.sd)) := hM3.sd
        have eq1 := EQ1.out w3
        have eq2 := EQ2.out w3
        have eq3 := EQ3.out w3
        clear hM3
        go_wp2_with fail
        go_ret
        exact ⟨by cases g0 <;> rfl, HB3.out⟩
set_option maxRecDepth 100000 in
theorem rGood_0 (m : Msg) (aL aJ aI : Option Addr) (cL cJ cI : Nat) (w : World) (hr : MR w m aL aJ aI) (h1 : m.kd ≠ 1) (h2 : m.kd ≠ 2) (h3 : m.kd ≠ 3) (h4 : m.kd ≠ 4) :
    Calls Tryz.prog 7 #[.agg (mgv m aL aJ aI cL cJ cI).toArray] w fun e w' => e = .returned (.bool (gM m)) ∧ Below w.heap.size w w' := by
  unfold mgv
  have hsm := fun W (hb : Below w.heap.size w W) => sameR_any m.rk zR aL aJ aI none none none cL cJ cI 0 0 0 W (hr.l.later hb) (hr.j.later hb) (hr.i.later hb) (RdV.nil _ _ _ _) (RdV.nil _ _ _ _) (RdV.nil _ _ _ _) hr.nl hr.nj hr.ni (by show (0 : Nat) < _; decide) (by show (0 : Nat) < _; decide) (by show (0 : Nat) < _; decide)
  have HR : Hid (MR w m aL aJ aI) := hr
  clear hr
  have eq1 := fun W => run_eqPr 27 (w := W) 9998 m.rq zQ (.inr (.inr rfl))
  have eq2 := fun W => run_eqRp (w := W) 9995 m.rp zP
  have eq3 := fun W => run_eqSd (w := W) 9997 m.sd zD
  have hM : MgAt (w.alloc (.cells (mgl m (.slice aL m.rk.2.1.length cL) (.slice aJ m.rk.2.2.1.length cJ) (.slice aI m.rk.2.2.2.length cI)).toArray 38)) w.heap.size m (.slice aL m.rk.2.1.length cL) (.slice aJ m.rk.2.2.1.length cJ) (.slice aI m.rk.2.2.2.length cI) := heap_alloc_last w _
  have hB := below_alloc w (.cells (mgl m (.slice aL m.rk.2.1.length cL) (.slice aJ m.rk.2.2.1.length cJ) (.slice aI m.rk.2.2.2.length cI)).toArray 38)
  obtain ⟨nL, hnL⟩ : ∃ n, m.rk.2.1.length = n := ⟨_, rfl⟩
  obtain ⟨nJ, hnJ⟩ : ∃ n, m.rk.2.2.1.length = n := ⟨_, rfl⟩
  obtain ⟨nI, hnI⟩ : ∃ n, m.rk.2.2.2.length = n := ⟨_, rfl⟩
  have HEQ : Hid (m.rk.2.1.length = nL ∧ m.rk.2.2.1.length = nJ ∧ m.rk.2.2.2.length = nI) := ⟨hnL, hnJ, hnI⟩
  simp only [hnL, hnJ, hnI] at hsm hM hB
  rw [hnL, hnJ, hnI]
  clear hnL hnJ hnI
  obtain ⟨ct, hct⟩ : ∃ c, (mgl m (.slice aL nL cL) (.slice aJ nJ cJ) (.slice aI nI cI)).toArray = c := ⟨_, rfl⟩
  rw [hct] at hB
  rw [hct]
  have HM : Hid (MgAt (w.alloc (.cells ct 38)) w.heap.size m (.slice aL nL cL) (.slice aJ nJ cJ) (.slice aI nI cI)) := by have h := hM; rw [hct] at h; exact h
  clear hM hct
  obtain ⟨nr, hnr⟩ : ∃ b, nR m.rk = b := ⟨_, rfl⟩
  have HNR : Hid (nR m.rk = nr) := hnr
  have HG : Hid (gM m = false) := gM_0 h1 h2 h3 h4
  rw [HG.out]
  clear HG hnr eq1 eq2 eq3
  obtain ⟨kd, hkd⟩ : ∃ k, m.kd = k := ⟨_, rfl⟩
  rw [hkd] at h1 h2 h3 h4
  have HKD : Hid (m.kd = kd) := hkd
  clear hkd
  have d1 : decide (kd = 1) = false := by simp [h1]
  have d2 : decide (kd = 2) = false := by simp [h2]
  have d3 : decide (kd = 3) = false := by simp [h3]
  have d4 : decide (kd = 4) = false := by simp [h4]
  go_enter Tryz.func7, Tryz.ntmps7
  go_upto_region 1 with (fail)
  generalize w.alloc (.cells ct 38) = w1 at *
  obtain ⟨B, hBe⟩ : ∃ B, w.heap.size = B := ⟨_, rfl⟩
  rw [hBe] at HM ⊢
  clear hBe
  have HB : Hid (Below w.heap.size w w1) := hB
  clear hB
  have HK : Hid (w1.rangeAt B 1 (rkl m.rk.1 (.slice aL nL cL) (.slice aJ nJ cJ) (.slice aI nI cI))) := HM.out.rk
  have hsm := hsm w1 HB.out
  go_wp2_with (refine ldM HK.out Tryz.underlying25 rfl szRk _ rfl rfl rfl ?_)
  refine hsm.mono ?_
  rintro q w2 ⟨⟨bn, rfl, hbn⟩, hb2⟩
  have hM2 := HM.out.later hb2
  have HB2 : Hid (Below w.heap.size w w2) := Below.join HB.out hb2
  have ck := hM2.kind
  rw [HKD.out] at ck
  clear hsm hb2 HM HB HK hbn hM2
  go_wp2_with fail
  go_ret
  exact ⟨rfl, HB2.out⟩
theorem rGood_any (m : Msg) (aL aJ aI : Option Addr) (cL cJ cI : Nat) (w : World) (hr : MR w m aL aJ aI) :
    Calls Tryz.prog 7 #[.agg (mgv m aL aJ aI cL cJ cI).toArray] w fun e w' => e = .returned (.bool (gM m)) ∧ Below w.heap.size w w' := by
  by_cases h1 : m.kd = 1
  · exact rGood_1 m aL aJ aI cL cJ cI w hr h1
  · by_cases h2 : m.kd = 2
    · exact rGood_2 m aL aJ aI cL cJ cI w hr h2
    · by_cases h3 : m.kd = 3
      · exact rGood_3 m aL aJ aI cL cJ cI w hr h3
      · by_cases h4 : m.kd = 4
        · exact rGood_4 m aL aJ aI cL cJ cI w hr h4
        · exact rGood_0 m aL aJ aI cL cJ cI w hr h1 h2 h3 h4
end Go.Proofs.YtdkfifnhmfbagaaGreat.Wi
