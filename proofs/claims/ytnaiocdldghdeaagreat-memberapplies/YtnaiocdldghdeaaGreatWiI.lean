/- Contracts: the document's GoodRekey, GoodRequest, GoodReply, GoodSealed. -/
import Derived.Test.YtnaiocdldghdeaaGreatWiJ1
namespace Go.Proofs.YtnaiocdldghdeaaGreat.Wi
open Go.RowKit Go.Maps
open Rt (gd)
open Sh (belB)
set_option linter.unusedVariables false
set_option linter.unusedSimpArgs false

theorem gS_split (s : Int × Int) : gS s = (gW s.1 && gL s.2) := rfl
set_option maxRecDepth 100000 in
set_option maxHeartbeats 1000000 in
theorem rSeats_any (a : Option Addr) (c : Nat) (l : List (Int × Int)) (w : World) (rd : RdV stl 2 w a l) (hl : l.length < 4611686018427387904) :
    Calls Tryz.prog 49 #[.slice a l.length c] w fun e w' => e = .returned (.bool (decide (l.length ≤ 64) && l.all gS)) ∧ Below w.heap.size w w' := by
  obtain ⟨n, hn⟩ : ∃ n, l.length = n := ⟨_, rfl⟩
  have HN : Hid (l.length = n) := hn
  rw [hn] at hl
  rw [hn]
  clear hn
  go_enter Tryz.func49, Tryz.ntmps49
  go_wp2_with fail
  go_loopw [7] (fun i wx => ∃ k : Nat, k ≤ n ∧ i = .int .i64 (k : Int) ∧ (∀ x ∈ l.take k, gS x = true) ∧ Below w.heap.size w wx) (fun i _ => n - (intOf i).toNat)
  case atStart => exact ⟨0, by omega, rfl, by simp, Below.refl _ _⟩
  case round =>
    obtain ⟨k, hk, rfl, hA, hb⟩ := hrel
    have HA : Hid (∀ x ∈ l.take k, gS x = true) := hA
    have HB : Hid (Below w.heap.size w wr) := hb
    clear hA hb
    by_cases hkn : k < n
    · have hkl : k < l.length := by rw [HN.out]; exact hkn
      obtain ⟨b, o, rfl, hr⟩ := rd k hkl
      have hr := ra_later hr HB.out
      unfold stl at hr
      have i1 : (0 : Int) ≤ (k : Int) := by omega
      have i2 : (k : Int) < (n : Int) := by omega
      have h1 := rPerson_any l[k].1
      have h2 := rSlot_any l[k].2
      cases hg1 : gW l[k].1 with
      | false =>
        rw [hg1] at h1
        have HE : Hid (l.all gS = false) := all_no hkl (by rw [gS_split, hg1]; rfl)
        generalize l[k] = p at *
        clear hg1 h2
        go_wp2_with (first | (refine ldM hr Tryz.underlying69 rfl szSeat _ rfl rfl rfl ?_) | (go_at_call 87; refine (h1 _).mono ?_; rintro r w' ⟨rfl, rfl⟩))
        go_ret
        exact ⟨ret_bool (by rw [HE.out]; simp), Below.plus HB.out _⟩
      | true =>
        rw [hg1] at h1
        cases hg2 : gL l[k].2 with
        | false =>
          rw [hg2] at h2
          have HE : Hid (l.all gS = false) := all_no hkl (by rw [gS_split, hg1, hg2]; rfl)
          generalize l[k] = p at *
          clear hg1 hg2
          go_wp2_with (first | (refine ldM hr Tryz.underlying69 rfl szSeat _ rfl rfl rfl ?_) | (go_at_call 87; refine (h1 _).mono ?_; rintro r w' ⟨rfl, rfl⟩) | (go_at_call 88; refine (h2 _).mono ?_; rintro r w' ⟨rfl, rfl⟩))
          go_ret
          exact ⟨ret_bool (by rw [HE.out]; simp), Below.plus HB.out _⟩
        | true =>
          rw [hg2] at h2
          have HA2 : Hid (∀ x ∈ l.take (k + 1), gS x = true) := all_nx hkl HA.out (by rw [gS_split, hg1, hg2]; rfl)
          generalize l[k] = p at *
          clear hg1 hg2
          go_wp2_with (first | (refine ldM hr Tryz.underlying69 rfl szSeat _ rfl rfl rfl ?_) | (go_at_call 87; refine (h1 _).mono ?_; rintro r w' ⟨rfl, rfl⟩) | (go_at_call 88; refine (h2 _).mono ?_; rintro r w' ⟨rfl, rfl⟩))
          go_roundw
          case rel => exact ⟨k + 1, by omega, by go_num, HA2.out, Below.plus HB.out _⟩
          case measure => simp [intOf]; omega
    · have hkn' : decide ((k : Int) < (n : Int)) = false := by simp; omega
      have HE : Hid (l.all gS = true) := all_yes (by rw [HN.out]; have : k = n := by omega
                                                     rw [← this]; exact HA.out)
      by_cases h64 : n ≤ 64
      · have d1 : (n : Int) ≤ 64 := by omega
        go_wp2_with fail
        go_ret
        exact ⟨ret_bool (by rw [HE.out]; simp [h64]), HB.out⟩
      · have d1 : decide ((n : Int) ≤ 64) = false := by simp; omega
        have d2 : ¬ (n : Int) ≤ 64 := by omega
        have HF : Hid ((decide (n ≤ 64) && l.all gS) = false) := by unfold Hid; rw [decide_eq_false h64]; rfl
        go_wp2_with fail
        go_ret
        exact ⟨ret_bool (by first | rfl | exact HF.out.symm | (rw [HE.out]; simp [h64])), HB.out⟩
theorem gI_no1 {i : (Int × Int) × ((Int × Int) × (Int × Int))} (h : ¬ (0 ≤ i.1.1 ∧ i.1.1 < 21)) : gI i = false := by
  unfold gI
  by_cases h0 : 0 ≤ i.1.1
  · rw [decide_eq_false (show ¬ i.1.1 < 21 from fun h1 => h ⟨h0, h1⟩), Bool.and_false]; rfl
  · rw [decide_eq_false h0]; rfl
theorem gI_yes1 {i : (Int × Int) × ((Int × Int) × (Int × Int))} (h0 : 0 ≤ i.1.1) (h1 : i.1.1 < 21) : gI i = (dpr i.1.1 i.1.2 && gB i.2) := by
  unfold gI
  rw [decide_eq_true h0, decide_eq_true h1]; rfl
set_option maxRecDepth 100000 in
set_option maxHeartbeats 2000000 in
theorem rRekey_any (r : Int × (List (Int × Int) × (List (Int × Int) × List ((Int × Int) × ((Int × Int) × (Int × Int)))))) (aL aJ aI : Option Addr) (cL cJ cI : Nat) (w : World) (rL : RdV stl 2 w aL r.2.1) (rJ : RdV stl 2 w aJ r.2.2.1) (rI : RdV itl 6 w aI r.2.2.2) (nL : r.2.1.length < 4611686018427387904) (nJ : r.2.2.1.length < 4611686018427387904) (nI : r.2.2.2.length < 4611686018427387904) :
    Calls Tryz.prog 16 #[.agg (rkl r.1 (.slice aL r.2.1.length cL) (.slice aJ r.2.2.1.length cJ) (.slice aI r.2.2.2.length cI)).toArray] w fun e w' => e = .returned (.bool (gR r)) ∧ Below w.heap.size w w' := by
  obtain ⟨e, L, J, I⟩ := r
  dsimp only at *
  have HG : Hid (gR (e, L, J, I) = (gE e && ((decide (L.length ≤ 64) && L.all gS) && ((decide (J.length ≤ 64) && J.all gS) && (decide (I.length ≤ 1536) && I.all gI))))) := rfl
  have hE := rEpoch_any e
  have h1 := fun W (hb : Below w.heap.size w W) => rSeats_any aL cL L W (rL.later hb) nL
  have h2 := fun W (hb : Below w.heap.size w W) => rSeats_any aJ cJ J W (rJ.later hb) nJ
  obtain ⟨b1, e1⟩ : ∃ b, (decide (L.length ≤ 64) && L.all gS) = b := ⟨_, rfl⟩
  obtain ⟨b2, e2⟩ : ∃ b, (decide (J.length ≤ 64) && J.all gS) = b := ⟨_, rfl⟩
  obtain ⟨b0, e0⟩ : ∃ b, gE e = b := ⟨_, rfl⟩
  simp only [e0, e1, e2] at HG h1 h2 hE
  rw [HG.out]
  clear HG e0 e1 e2 rL rJ
  generalize L.length = n1 at *
  generalize J.length = n2 at *
  obtain ⟨n3, hn3⟩ : ∃ n, I.length = n := ⟨_, rfl⟩
  have HN : Hid (I.length = n3) := hn3
  rw [hn3] at nI
  rw [hn3]
  clear hn3
  unfold rkl
  have hR := heap_alloc_last w (.cells #[.int .i64 e, .slice aL n1 cL, .slice aJ n2 cJ, .slice aI n3 cI] 31)
  have hB := below_alloc w (.cells #[.int .i64 e, .slice aL n1 cL, .slice aJ n2 cJ, .slice aI n3 cI] 31)
  go_enter Tryz.func16, Tryz.ntmps16
  go_upto_region 1 with (fail)
  generalize w.alloc (.cells #[.int .i64 e, .slice aL n1 cL, .slice aJ n2 cJ, .slice aI n3 cI] 31) = w1 at *
  obtain ⟨B, hBe⟩ : ∃ B, w.heap.size = B := ⟨_, rfl⟩
  rw [hBe] at hR ⊢
  clear hBe
  obtain ⟨c0, c1, c2, c3⟩ := c4 hR
  have HB : Hid (Below w.heap.size w w1) := hB
  clear hB
  go_wp2_with fail
  refine (hE _).mono ?_
  rintro q w2 ⟨rfl, rfl⟩
  cases b0 with
  | false =>
    go_wp2_with fail
    go_ret
    exact ⟨rfl, HB.out⟩
  | true =>
    go_wp2_with fail
    refine (h1 _ HB.out).mono ?_
    rintro q w2 ⟨rfl, hb2⟩
    have hR2 := row_later hR hb2
    have HB2 : Hid (Below w.heap.size w w2) := Below.join HB.out hb2
    clear c0 c1 c2 c3 hb2 hR HB h1
    obtain ⟨c0, c1, c2, c3⟩ := c4 hR2
    cases b1 with
    | false =>
      go_wp2_with fail
      go_ret
      exact ⟨rfl, HB2.out⟩
    | true =>
      go_wp2_with fail
      refine (h2 _ HB2.out).mono ?_
      rintro q w3 ⟨rfl, hb3⟩
      have hR3 := row_later hR2 hb3
      have HB3 : Hid (Below w.heap.size w w3) := Below.join HB2.out hb3
      clear c0 c1 c2 c3 hb3 hR2 HB2 h2
      obtain ⟨c0, c1, c2, c3⟩ := c4 hR3
      cases b2 with
      | false =>
        go_wp2_with fail
        go_ret
        exact ⟨rfl, HB3.out⟩
      | true =>
        by_cases h15 : n3 ≤ 1536
        · have d1 : decide ((1536 : Int) < (n3 : Int)) = false := by simp; omega
          have d2 : ¬ (1536 : Int) < (n3 : Int) := by omega
          have HF : Hid ((true && (true && (true && (decide (n3 ≤ 1536) && I.all gI)))) = I.all gI) := by unfold Hid; rw [decide_eq_true h15]; rfl
          go_wp2_with fail
          go_loopw [30] (fun i wx => ∃ k : Nat, k ≤ n3 ∧ i = .int .i64 (k : Int) ∧ (∀ x ∈ I.take k, gI x = true) ∧ Below w.heap.size w wx) (fun i _ => n3 - (intOf i).toNat)
          case atStart => exact ⟨0, by omega, rfl, by simp, HB3.out⟩
          case round =>
            obtain ⟨k, hk, rfl, hA, hb⟩ := hrel
            have HA : Hid (∀ x ∈ I.take k, gI x = true) := hA
            have HBr : Hid (Below w.heap.size w wr) := hb
            clear hA hb c0 c1 c2 c3
            by_cases hkn : k < n3
            · have hkl : k < I.length := by rw [HN.out]; exact hkn
              obtain ⟨b, o, rfl, hr⟩ := rI k hkl
              have hr := ra_later hr HBr.out
              unfold itl at hr
              have i1 : (0 : Int) ≤ (k : Int) := by omega
              have i2 : (k : Int) < (n3 : Int) := by omega
              have HNO : Hid (gI I[k] = false → I.all gI = false) := fun h => all_no hkl h
              have HYE : Hid (gI I[k] = true → ∀ x ∈ I.take (k + 1), gI x = true) := fun h => all_nx hkl HA.out h
              generalize I[k] = p at *
              obtain ⟨⟨v, u⟩, bx⟩ := p
              dsimp only at hr
              clear hkl
              by_cases v0 : 0 ≤ v
              · by_cases v1 : v < 21
                · have HGI : Hid (gI ((v, u), bx) = (dpr v u && gB bx)) := gI_yes1 v0 v1
                  have v0' : ¬ v < 0 := by omega
                  have v1' : ¬ 21 ≤ v := by omega
                  by_cases huv : u = v
                  · subst huv
                    have HX : Hid (I.all gI = false) := HNO.out (by rw [HGI.out]; unfold dpr; simp)
                    have d3 : (u == u) = true := by simp
                    go_wp2_with (refine ldM hr Tryz.underlying99 rfl szItem _ rfl rfl rfl ?_)
                    go_ret
                    exact ⟨ret_bool (by first | (rw [HF.out, HX.out]) | exact HX.out.symm | (rw [HX.out])), Below.plus HBr.out _⟩
                  · have d3 : (u == v) = false := by simp [huv]
                    have d4 : decide (u = v) = false := by simp [huv]
                    have hbl := Sh.rBelow_any v u
                    have HDP : Hid (dpr v u = belB v u) := by unfold Hid dpr; rw [decide_eq_true huv, Bool.and_true]
                    cases hq : belB v u with
                    | false =>
                      rw [hq] at hbl
                      have HX : Hid (I.all gI = false) := HNO.out (by rw [HGI.out, HDP.out, hq]; rfl)
                      clear hq
                      go_wp2_with (first | (refine ldM hr Tryz.underlying99 rfl szItem _ rfl rfl rfl ?_) | (go_at_call 50; refine (hbl _).mono ?_; rintro r w' ⟨rfl, rfl⟩))
                      go_ret
                      exact ⟨ret_bool (by first | (rw [HF.out, HX.out]) | exact HX.out.symm | (rw [HX.out])), Below.plus HBr.out _⟩
                    | true =>
                      rw [hq] at hbl
                      have HG2 : Hid (gI ((v, u), bx) = gB bx) := by unfold Hid; rw [HGI.out, HDP.out, hq]; rfl
                      have hgb := rGoodBox_any bx
                      clear hq
                      cases hgx : gB bx with
                      | false =>
                        rw [hgx] at hgb
                        have HX : Hid (I.all gI = false) := HNO.out (by rw [HG2.out, hgx])
                        clear hgx
                        go_wp2_with (first | (refine ldM hr Tryz.underlying99 rfl szItem _ rfl rfl rfl ?_) | (go_at_call 50; refine (hbl _).mono ?_; rintro r w' ⟨rfl, rfl⟩))
                        refine (hgb _).mono ?_
                        rintro q w5 ⟨rfl, hb5⟩
                        have HB5 : Hid (Below w.heap.size w w5) := Below.join (Below.plus HBr.out _) hb5
                        clear hb5 hgb
                        go_wp2_with fail
                        go_ret
                        exact ⟨ret_bool (by first | (rw [HF.out, HX.out]) | exact HX.out.symm | (rw [HX.out])), HB5.out⟩
                      | true =>
                        rw [hgx] at hgb
                        have HX : Hid (∀ x ∈ I.take (k + 1), gI x = true) := HYE.out (by rw [HG2.out, hgx])
                        clear hgx
                        go_wp2_with (first | (refine ldM hr Tryz.underlying99 rfl szItem _ rfl rfl rfl ?_) | (go_at_call 50; refine (hbl _).mono ?_; rintro r w' ⟨rfl, rfl⟩))
                        refine (hgb _).mono ?_
                        rintro q w5 ⟨rfl, hb5⟩
                        have HB5 : Hid (Below w.heap.size w w5) := Below.join (Below.plus HBr.out _) hb5
                        clear hb5 hgb
                        go_wp2_with fail
                        go_roundw
                        case rel => exact ⟨k + 1, by omega, by go_num, HX.out, HB5.out⟩
                        case measure => simp [intOf]; omega
                · have HX : Hid (I.all gI = false) := HNO.out (gI_no1 (by dsimp only; omega))
                  have v0' : ¬ v < 0 := by omega
                  have v1' : 21 ≤ v := by omega
                  go_wp2_with (refine ldM hr Tryz.underlying99 rfl szItem _ rfl rfl rfl ?_)
                  go_ret
                  exact ⟨ret_bool (by first | (rw [HF.out, HX.out]) | exact HX.out.symm | (rw [HX.out])), Below.plus HBr.out _⟩
              · have HX : Hid (I.all gI = false) := HNO.out (gI_no1 (by dsimp only; omega))
                have v0' : v < 0 := by omega
                go_wp2_with (refine ldM hr Tryz.underlying99 rfl szItem _ rfl rfl rfl ?_)
                go_ret
                exact ⟨ret_bool (by first | (rw [HF.out, HX.out]) | exact HX.out.symm | (rw [HX.out])), Below.plus HBr.out _⟩
            · have hkn' : decide ((k : Int) < (n3 : Int)) = false := by simp; omega
              have HX : Hid (I.all gI = true) := all_yes (by rw [HN.out]; have : k = n3 := by omega
                                                             rw [← this]; exact HA.out)
              go_wp2_with fail
              go_ret
              exact ⟨ret_bool (by first | (rw [HF.out, HX.out]) | exact HX.out.symm | (rw [HX.out])), HBr.out⟩
        · have d1 : (1536 : Int) < (n3 : Int) := by omega
          have HF : Hid ((true && (true && (true && (decide (n3 ≤ 1536) && I.all gI)))) = false) := by unfold Hid; rw [decide_eq_false h15]; rfl
          go_wp2_with fail
          go_ret
          exact ⟨ret_bool HF.out.symm, HB3.out⟩
end Go.Proofs.YtnaiocdldghdeaaGreat.Wi
