/- Contracts: the document's Turn. -/
import Derived.Test.YtgfegolignhefaaRtF
namespace Go.Proofs.Ytgfegolignhefaa
open Go.RowKit
set_option linter.unusedVariables false
set_option linter.unusedSimpArgs false

theorem rAhead_yes (b s n : Int) (h : Gd b s) (h0 : 0 ≤ n) (h1 : n ≤ 255 - s) (w : World) :
    Calls Try.prog 29 #[.agg #[.int .i64 b, .int .i64 s], .int .i64 n] w fun e w' => e = .returned (.tuple #[.agg #[.int .i64 b, .int .i64 (s + n)], .int .i64 0]) ∧ Below w.heap.size w w' := by
  have h3 := h.2.2.1
  refine (rAhead_in b s n h h0 (by omega) w).mono ?_
  rintro e w' ⟨he, hb⟩
  rw [if_pos (by omega)] at he
  exact ⟨he, hb⟩
theorem rAhead_far (b s n : Int) (h : Gd b s) (hn : n < 0 ∨ 255 - s < n) (w : World) :
    Calls Try.prog 29 #[.agg #[.int .i64 b, .int .i64 s], .int .i64 n] w fun e w' => e = .returned (.tuple #[.agg #[.int .i64 0, .int .i64 0], .int .i64 4]) ∧ Below w.heap.size w w' := by
  by_cases hi : 0 ≤ n ∧ n ≤ 255
  · refine (rAhead_in b s n h hi.1 hi.2 w).mono ?_
    rintro e w' ⟨he, hb⟩
    rw [if_neg (by omega)] at he
    exact ⟨he, hb⟩
  · exact rAhead_off b s n h (by omega) w
theorem TS.set {w W : World} {g : Nat → Ky} (h : TS w W g) (k : Nat) (hk : k < 21) (a b : Int) : TS w ((W.setCell ⟨w.heap.size, k * 2, none⟩ (.int .i64 a)).setCell ⟨w.heap.size, k * 2 + 1, none⟩ (.int .i64 b)) (kup g k ⟨a, b⟩) :=
  ⟨h.ks.set2 k hk a b, (set2_other (by omega) _ _ _ _).trans h.ze, set2_below h.bel (Nat.le_refl _) _ _ _ _⟩
theorem high_bit {r : Nat} (hr : r < 4294967296) (h : ∀ i, 21 ≤ i → i < 32 → r.testBit i = false) : r < 2097152 := by
  rcases Nat.lt_or_ge r 2097152 with h1 | h1
  · exact h1
  · exfalso
    obtain ⟨i, hi, hb⟩ := Nat.exists_ge_and_testBit_of_ge_two_pow (n := 21) (x := r) (by simpa using h1)
    rcases Nat.lt_or_ge i 32 with h2 | h2
    · rw [h i hi h2] at hb
      cases hb
    · rw [Nat.testBit_lt_two_pow (Nat.lt_of_lt_of_le hr (by have := Nat.pow_le_pow_right (n := 2) (by omega) h2; simpa using this))] at hb
      cases hb
theorem low_bit {r i : Nat} (hr : r < 2097152) (hi : 21 ≤ i) : r.testBit i = false := Nat.testBit_lt_two_pow (Nat.lt_of_lt_of_le hr (by have := Nat.pow_le_pow_right (n := 2) (by omega) hi; simpa using this))
theorem frk_zero {f : Nat → Ky} {r : Nat} {n : Int} (h : cu r 21 = 0) : frk f r n = true := by unfold frk; rw [h]; rfl
theorem frk_low {f : Nat → Ky} {r : Nat} {n : Int} (h : ¬ cu r 21 = 0) (h2 : n < 1 ∨ 32768 - (cu r 21 : Int) < n) : frk f r n = false := by
  unfold frk
  rw [decide_eq_false h, Bool.false_or]
  rcases h2 with h2 | h2
  · rw [decide_eq_false (by omega), Bool.false_and]
  · rw [decide_eq_false (p := n ≤ _) (by omega), Bool.false_and, Bool.and_false]
theorem frk_clash {f : Nat → Ky} {r i : Nat} {n : Int} (h : ¬ cu r 21 = 0) (hi : i < 21) (hc : nm1 (f i) n (n + (cu r 21 : Int)) = true) : frk f r n = false := by
  unfold frk
  rw [decide_eq_false h, Bool.false_or, nmd_yes hi hc, Bool.not_true, Bool.and_false, Bool.and_false]
theorem frk_fine {f : Nat → Ky} {r : Nat} {n : Int} (h1 : 1 ≤ n) (h2 : n ≤ 32768 - (cu r 21 : Int)) (hc : ∀ i, i < 21 → nm1 (f i) n (n + (cu r 21 : Int)) = false) : frk f r n = true := by
  unfold frk
  rw [decide_eq_true h1, decide_eq_true h2, nmd_no hc]
  simp
set_option maxRecDepth 100000 in
set_option maxHeartbeats 2000000 in
/- Behind the tests: the nodes from the greatest down. -/
theorem rTurn_any (f : Nat → Ky) (r : Nat) (hr : r < 4294967296) (n : Int) (w : World) :
    Calls Try.prog 13 #[.agg (kcs f), .int .u32 (r : Int), .int .i64 n] w fun e w' => e = TurnA f r n ∧ Below w.heap.size w w' := by
  have hT0 := TS.new w f
  go_enter Try.func13, Try.ntmps13
  go_upto_region 1 with (fail)
  rw [zero42]
  generalize (w.alloc (.cells (kcs f) 25)).alloc (.cells (kcs fun _ => zK) 25) = w1 at *
  refine wp_region_lit ?_
  refine ldK hT0.ks rfl _ rfl rfl ?_
  have hck := rCheck_any f w1
  obtain ⟨cf, hcf⟩ : ∃ cf, kcs f = cf := ⟨_, rfl⟩
  rw [hcf] at hck ⊢
  clear hcf
  go_wp2_with fail
  refine hck.mono ?_
  rintro e w2 ⟨rfl, hb2⟩
  have hT2 := hT0.later hb2
  clear hck hb2 hT0
  cases hkc : kchk f with
  | false =>
    rw [kchkE_ff hkc]
    go_wp2_with (refine stK (g := fun _ => zK) hT2.ze rfl _ _ rfl rfl zero42' ?_)
    refine bodyPost_ret (results_ks3 (p := 6) (t := 7) (u := 8) rfl _ _ (w.heap.size + 1) (fun _ => zK) rfl (hT2.ze.row _)) rfl ?_
    exact ⟨TurnA.no (trE_wrong hkc) (by decide), setRow_below (by omega) hT2.bel _⟩
  | true =>
    rw [kchkE_tt hkc]
    go_wp2_with fail
    go_loopw [9] (fun i wx => ∃ k : Nat, 21 ≤ k ∧ k ≤ 32 ∧ i = .int .i64 (k : Int) ∧ wx = w2 ∧ ∀ m, 21 ≤ m → m < k → r.testBit m = false) (fun i _ => 32 - (intOf i).toNat)
    case atStart => exact ⟨21, by omega, by omega, rfl, rfl, fun m h1 h2 => by omega⟩
    case round =>
      obtain ⟨k, hk0, hk, rfl, rfl, hf⟩ := hrel
      have HF : Hid (∀ m, 21 ≤ m → m < k → r.testBit m = false) := hf
      clear hf
      by_cases hk8 : k < 32
      · have k8 : (k : Int) < 32 := by omega
        have hin := rIn_any r k hr hk8 wr
        cases hb : r.testBit k with
        | true =>
          rw [hb] at hin
          go_wp2_with (first | (go_at_call 27; refine hin.mono ?_; rintro e wr ⟨rfl, rfl⟩) | (refine stK (g := fun _ => zK) hT2.ze rfl _ _ rfl rfl zero42' ?_))
          refine bodyPost_ret (results_ks3 (p := 6) (t := 7) (u := 8) rfl _ _ (w.heap.size + 1) (fun _ => zK) rfl (hT2.ze.row _)) rfl ?_
          exact ⟨TurnA.no (trE_node hkc fun h => by rw [low_bit h hk0] at hb; cases hb) (by decide), setRow_below (by omega) hT2.bel _⟩
        | false =>
          rw [hb] at hin
          go_wp2_with (go_at_call 27; refine hin.mono ?_; rintro e wr ⟨rfl, rfl⟩)
          go_roundw
          case rel =>
            refine ⟨k + 1, by omega, by omega, by go_num, by first | rfl | trivial, fun m h1 h2 => ?_⟩
            rcases Nat.lt_or_ge m k with h | h
            · exact HF.out m h1 h
            · obtain rfl : m = k := by omega
              exact hb
          case measure => simp [intOf]; omega
      · obtain rfl : k = 32 := by omega
        rw [show ((32 : Nat) : Int) = 32 from rfl]
        have hr2 : r < 2097152 := high_bit hr fun i h1 h2 => HF.out i h1 h2
        clear HF hk hk0 hk8
        have hcn := rCount_any r hr wr
        have hcu := cu_le r 21
        obtain ⟨q, hq⟩ : ∃ q, cu r 21 = q := ⟨_, rfl⟩
        rw [hq] at hcn hcu
        have HQ : Hid (cu r 21 = q) := hq
        clear hq
        go_upto_region 9 with (go_at_call 28; refine hcn.mono ?_; rintro e wr ⟨rfl, rfl⟩)
        clear hcn
        have hqs : IntKind.i64.wrap (32768 - (q : Int)) = 32768 - (q : Int) := i64_fit _ (by omega) (by omega)
        by_cases hbad : 0 < q ∧ (n < 1 ∨ 32768 - (q : Int) < n)
        · obtain ⟨hq0, hbad⟩ := hbad
          have hq1 : (0 : Int) < (q : Int) := by omega
          have HFK : Hid (frk f r n = false) := frk_low (by rw [HQ.out]; omega) (by rw [HQ.out]; exact hbad)
          by_cases hn1 : n < 1
          · clear hbad
            go_wp2_with (refine stK (g := fun _ => zK) hT2.ze rfl _ _ rfl rfl zero42' ?_)
            refine bodyPost_ret (results_ks3 (p := 6) (t := 7) (u := 8) rfl _ _ (w.heap.size + 1) (fun _ => zK) rfl (hT2.ze.row _)) rfl ?_
            exact ⟨TurnA.no (trE_key hkc hr2 HFK.out) (by decide), setRow_below (by omega) hT2.bel _⟩
          · have hn2 : 32768 - (q : Int) < n := by omega
            clear hbad
            go_wp2_with (refine stK (g := fun _ => zK) hT2.ze rfl _ _ rfl rfl zero42' ?_)
            refine bodyPost_ret (results_ks3 (p := 6) (t := 7) (u := 8) rfl _ _ (w.heap.size + 1) (fun _ => zK) rfl (hT2.ze.row _)) rfl ?_
            exact ⟨TurnA.no (trE_key hkc hr2 HFK.out) (by decide), setRow_below (by omega) hT2.bel _⟩
        · by_cases hq0 : q = 0
          · subst hq0
            rw [show ((0 : Nat) : Int) = 0 from rfl]
            have hfk : frk f r n = true := frk_zero HQ.out
            clear hbad hqs hcu
            go_wp2_with fail
            go_loopw [11] (fun i wx => i = .int .i64 0 ∧ wx = wr) (fun i _ => 0)
            case atStart => exact ⟨rfl, rfl⟩
            case round =>
              obtain ⟨rfl, rfl⟩ := hrel
              have HT : Hid (TS w wr (trS f f r n 0)) := by have e : kcs (trS f f r n 0) = kcs f := trS_zero _ _ _ _; exact ⟨hT2.ks.congr e.symm, hT2.ze, hT2.bel⟩
              clear hT2
              go_wp2_with fail
              go_loopw [2, 12] (fun x i wx => ∃ j : Nat, j ≤ 21 ∧ i = .int .i64 (20 - (j : Int)) ∧ x = .int .i64 (n + ((cd r j : Nat) : Int)) ∧ TS w wx (trS f f r n j) ∧ ∀ m, m < j → skk f r (20 - m) = false) (fun _ i _ => (intOf i + 1).toNat)
              case atStart => exact ⟨0, by omega, rfl, by simp [cd], HT.out, fun m hm => by omega⟩
              case round =>
                obtain ⟨j, hj, rfl, rfl, hL, hsk⟩ := hrel
                have HL : Hid (TS w wr (trS f f r n j)) := hL
                have HSK : Hid (∀ m, m < j → skk f r (20 - m) = false) := hsk
                clear hL hsk HT
                by_cases hj8 : j < 21
                · obtain ⟨v, hv⟩ : ∃ v : Nat, 20 - j = v := ⟨_, rfl⟩
                  have hvi : (20 : Int) - (j : Int) = (v : Int) := by omega
                  rw [hvi]
                  have v0 : (0 : Int) ≤ (v : Int) := by omega
                  have v1 : (v : Int) < 21 := by omega
                  obtain ⟨y, hy⟩ : ∃ y : Int, n + ((cd r j : Nat) : Int) = y := ⟨_, rfl⟩
                  rw [hy]
                  have HY : Hid (n + ((cd r j : Nat) : Int) = y) := hy
                  have HV : Hid (20 - j = v) := hv
                  have hvl : v < 21 := by omega
                  clear hy hv hvi
                  have hin := rIn_any r v hr (by omega) wr
                  obtain ⟨c0, c1⟩ := HL.out.ks.cells v (by omega)
                  have hat : trS f f r n j v = f v := by have := trS_at f f r n hj8; rw [HV.out] at this; exact this
                  rw [hat] at c0 c1
                  clear hat
                  have f0 := row_frozen HL.out.ks (v * 2)
                  have f1 := row_frozen HL.out.ks (v * 2 + 1)
                  have HI : Hid ((20 : Int) - ((j + 1 : Nat) : Int) = (v : Int) - 1) := by have := HV.out; unfold Hid; omega
                  have HVJ : Hid (20 - v = j) := by have := HV.out; unfold Hid; omega
                  have HJ8 : Hid (j < 21) := hj8
                  have hcdl := cd_le r j
                  have HCD : Hid (cd r (j + 1) = cd r j + b1 r v) := by have := HV.out; rw [← this]; exact rfl
                  have HTS : Hid (trS f f r n (j + 1) = kup (trS f f r n j) v (trK f r n v)) := by have := trS_step f f r n hj8; rw [HV.out] at this; exact this
                  cases hb : r.testBit v with
                  | true =>
                    rw [hb] at hin
                    obtain ⟨fk1, fk2, _⟩ := frk_at hfk (by omega : v < 21) hb
                    have HY1 : Hid (y + 1 = n + ((cd r (j + 1) : Nat) : Int)) := by have h1 := HY.out; have h2 := HCD.out; unfold b1 at h2; rw [hb] at h2; simp at h2; unfold Hid; omega
                    have hyw : IntKind.i64.wrap (y + 1) = y + 1 := i64_fit _ (by have := HY.out; omega) (by have := HY.out; omega)
                    have HL2 : Hid (TS w ((wr.setCell ⟨w.heap.size, v * 2, none⟩ (.int .i64 y)).setCell ⟨w.heap.size, v * 2 + 1, none⟩ (.int .i64 0)) (kup (trS f f r n j) v ⟨y, 0⟩)) := HL.out.set v (by omega) y 0
                    clear fk1 fk2
                    go_wp2_with (go_at_call 27; refine hin.mono ?_; rintro e wr ⟨rfl, rfl⟩)
                    go_roundw
                    case rel =>
                      refine ⟨j + 1, by have := HJ8.out; omega, by rw [HI.out], by rw [← HY1.out], ?_, fun m hm => ?_⟩
                      · rw [HTS.out, trK_new hb, HVJ.out, HY.out]
                        exact HL2.out
                      · rcases Nat.lt_or_ge m j with h | h
                        · exact HSK.out m h
                        · obtain rfl : m = j := by omega
                          unfold skk
                          rw [HV.out, hb]
                          rfl
                    case measure => simp [intOf]
                  | false =>
                    rw [hb] at hin
                    obtain ⟨hG, _⟩ := (kchk_iff.1 hkc).1 v (by omega)
                    have HY1 : Hid (y = n + ((cd r (j + 1) : Nat) : Int)) := by have h1 := HY.out; have h2 := HCD.out; unfold b1 at h2; rw [hb] at h2; simp at h2; unfold Hid; omega
                    have HTK : Hid (trK f r n v = ⟨(f v).bas, (f v).stp + 1⟩) := trK_old hb
                    have HSV : Hid (skk f r v = decide (254 < (f v).stp)) := by unfold skk; rw [hb]; rfl
                    obtain ⟨e, he⟩ : ∃ e, f v = e := ⟨_, rfl⟩
                    rw [he] at c0 c1 hG HTK HSV
                    have HFE : Hid (f v = e) := he
                    clear he
                    by_cases hst : 254 < e.stp
                    · have ha := rAhead_far e.bas e.stp 1 hG (Or.inr (by omega)) wr
                      clear f0 f1
                      go_wp2_with (go_at_call 27; refine hin.mono ?_; rintro e wr ⟨rfl, rfl⟩)
                      refine ha.mono ?_
                      rintro a w7 ⟨rfl, hb7⟩
                      have hT8 := (HL.out.later hb7).later (below_alloc w7 (.cells #[.int .i64 0, .int .i64 0] 23))
                      clear ha hb7 c0 c1
                      go_wp2_with (refine stK (g := fun _ => zK) hT8.ze rfl _ _ rfl rfl zero42' ?_)
                      refine bodyPost_ret (results_ks3 (p := 6) (t := 7) (u := 8) rfl _ _ (w.heap.size + 1) (fun _ => zK) rfl (hT8.ze.row _)) rfl ?_
                      exact ⟨TurnA.no (trE_step hkc hr2 hfk (stuck_yes (v := v) hvl (by rw [HSV.out]; exact decide_eq_true hst))) (by decide), setRow_below (by omega) hT8.bel _⟩
                    · have ha := rAhead_yes e.bas e.stp 1 hG (by omega) (by omega) wr
                      clear f0 f1
                      go_wp2_with (go_at_call 27; refine hin.mono ?_; rintro e wr ⟨rfl, rfl⟩)
                      refine ha.mono ?_
                      rintro a w7 ⟨rfl, hb7⟩
                      clear c0 c1
                      have hL8 := (HL.out.later hb7).later (below_alloc w7 (.cells #[.int .i64 e.bas, .int .i64 (e.stp + 1)] 23))
                      obtain ⟨c0, c1⟩ := hL8.ks.cells v (by omega)
                      have f0 := row_frozen hL8.ks (v * 2)
                      have f1 := row_frozen hL8.ks (v * 2 + 1)
                      have HL9 : Hid (TS w (((w7.alloc (.cells #[.int .i64 e.bas, .int .i64 (e.stp + 1)] 23)).setCell ⟨w.heap.size, v * 2, none⟩ (.int .i64 e.bas)).setCell ⟨w.heap.size, v * 2 + 1, none⟩ (.int .i64 (e.stp + 1))) (kup (trS f f r n j) v ⟨e.bas, e.stp + 1⟩)) := hL8.set v (by omega) e.bas (e.stp + 1)
                      clear ha hb7 hL8
                      go_wp2_with fail
                      go_roundw
                      case rel =>
                        refine ⟨j + 1, by have := HJ8.out; omega, by rw [HI.out], by rw [← HY1.out], ?_, fun m hm => ?_⟩
                        · rw [HTS.out, HTK.out]
                          exact HL9.out
                        · rcases Nat.lt_or_ge m j with h | h
                          · exact HSK.out m h
                          · obtain rfl : m = j := by omega
                            rw [HV.out, HSV.out]
                            exact decide_eq_false (by omega)
                      case measure => simp [intOf]
                · obtain rfl : j = 21 := by omega
                  have HE0 : Hid (trE f r n = 0) := trE_ok hkc hr2 hfk (stuck_no fun v hv => by have := HSK.out (20 - v) (by omega); rw [show 20 - (20 - v) = v by omega] at this; exact this)
                  have hN := HL.out.ks.congr (trS_all _ _ _ _)
                  rw [show cd r 21 = cu r 21 from cd_all r]
                  obtain ⟨y, hy⟩ : ∃ y : Int, n + ((cu r 21 : Nat) : Int) = y := ⟨_, rfl⟩
                  rw [hy]
                  have HY : Hid (n + ((cu r 21 : Nat) : Int) = y) := hy
                  clear hy
                  go_upto_region 26 with (fail)
                  refine wp_region_lit ?_
                  refine ldK hN rfl _ rfl rfl ?_
                  go_wp2_with (refine stK (g := trK f r n) HL.out.ze rfl _ _ rfl rfl rfl ?_)
                  refine bodyPost_ret (results_ks3 (p := 6) (t := 7) (u := 8) rfl _ _ (w.heap.size + 1) (trK f r n) rfl (HL.out.ze.row _)) rfl ?_
                  refine ⟨?_, setRow_below (by omega) HL.out.bel _⟩
                  rw [← TurnA.yes HE0.out, HY.out]
                  rfl
          · have hn1 : 1 ≤ n := by omega
            have hn2 : n ≤ 32768 - (q : Int) := by omega
            have hq1 : (0 : Int) < (q : Int) := by omega
            have hnq : IntKind.i64.wrap (n + (q : Int)) = n + (q : Int) := i64_fit _ (by omega) (by omega)
            clear hbad
            go_wp2_with fail
            go_loopw [11] (fun i wx => ∃ k : Nat, k ≤ 21 ∧ i = .int .i64 (k : Int) ∧ wx = wr ∧ ∀ m, m < k → nm1 (f m) n (n + (q : Int)) = false) (fun i _ => 21 - (intOf i).toNat)
            case atStart => exact ⟨0, by omega, rfl, rfl, fun m hm => by omega⟩
            case round =>
              obtain ⟨k, hk, rfl, rfl, hf⟩ := hrel
              have HF : Hid (∀ m, m < k → nm1 (f m) n (n + (q : Int)) = false) := hf
              clear hf
              by_cases hk8 : k < 21
              · have k8 : (k : Int) < 21 := by omega
                have k0 : (0 : Int) ≤ (k : Int) := by omega
                obtain ⟨c0, c1⟩ := hT2.ks.cells k hk8
                have HN : Hid (nm1 (f k) n (n + (q : Int)) = (decide (n ≤ (f k).bas) && decide ((f k).bas < n + (q : Int)))) := rfl
                obtain ⟨b, hb⟩ : ∃ b, (f k).bas = b := ⟨_, rfl⟩
                rw [hb] at c0 HN
                clear hb c1
                by_cases g1 : n ≤ b
                · by_cases g2 : b < n + (q : Int)
                  · go_wp2_with (refine stK (g := fun _ => zK) hT2.ze rfl _ _ rfl rfl zero42' ?_)
                    refine bodyPost_ret (results_ks3 (p := 6) (t := 7) (u := 8) rfl _ _ (w.heap.size + 1) (fun _ => zK) rfl (hT2.ze.row _)) rfl ?_
                    exact ⟨TurnA.no (trE_key hkc hr2 (frk_clash (by rw [HQ.out]; omega) hk8 (by rw [HQ.out, HN.out, decide_eq_true g1, decide_eq_true g2]; rfl))) (by decide), setRow_below (by omega) hT2.bel _⟩
                  · go_wp2_with fail
                    go_roundw
                    case rel =>
                      refine ⟨k + 1, by omega, by go_num, by first | rfl | trivial, fun m hm => ?_⟩
                      rcases Nat.lt_or_ge m k with h | h
                      · exact HF.out m h
                      · obtain rfl : m = k := by omega
                        rw [HN.out, decide_eq_false g2, Bool.and_false]
                    case measure => simp [intOf]; omega
                · go_wp2_with fail
                  go_roundw
                  case rel =>
                    refine ⟨k + 1, by omega, by go_num, by first | rfl | trivial, fun m hm => ?_⟩
                    rcases Nat.lt_or_ge m k with h | h
                    · exact HF.out m h
                    · obtain rfl : m = k := by omega
                      rw [HN.out, decide_eq_false g1, Bool.false_and]
                  case measure => simp [intOf]; omega
              · obtain rfl : k = 21 := by omega
                rw [show ((21 : Nat) : Int) = 21 from rfl]
                have hfk : frk f r n = true := frk_fine hn1 (by rw [HQ.out]; exact hn2) (by rw [HQ.out]; exact HF.out)
                clear HF hk hk8 hq1 hnq hn1 hn2 hqs hcu
                have HT : Hid (TS w wr (trS f f r n 0)) := by have e : kcs (trS f f r n 0) = kcs f := trS_zero _ _ _ _; exact ⟨hT2.ks.congr e.symm, hT2.ze, hT2.bel⟩
                clear hT2
                go_wp2_with fail
                go_loopw [2, 12] (fun x i wx => ∃ j : Nat, j ≤ 21 ∧ i = .int .i64 (20 - (j : Int)) ∧ x = .int .i64 (n + ((cd r j : Nat) : Int)) ∧ TS w wx (trS f f r n j) ∧ ∀ m, m < j → skk f r (20 - m) = false) (fun _ i _ => (intOf i + 1).toNat)
                case atStart => exact ⟨0, by omega, rfl, by simp [cd], HT.out, fun m hm => by omega⟩
                case round =>
                  obtain ⟨j, hj, rfl, rfl, hL, hsk⟩ := hrel
                  have HL : Hid (TS w wr (trS f f r n j)) := hL
                  have HSK : Hid (∀ m, m < j → skk f r (20 - m) = false) := hsk
                  clear hL hsk HT
                  by_cases hj8 : j < 21
                  · obtain ⟨v, hv⟩ : ∃ v : Nat, 20 - j = v := ⟨_, rfl⟩
                    have hvi : (20 : Int) - (j : Int) = (v : Int) := by omega
                    rw [hvi]
                    have v0 : (0 : Int) ≤ (v : Int) := by omega
                    have v1 : (v : Int) < 21 := by omega
                    obtain ⟨y, hy⟩ : ∃ y : Int, n + ((cd r j : Nat) : Int) = y := ⟨_, rfl⟩
                    rw [hy]
                    have HY : Hid (n + ((cd r j : Nat) : Int) = y) := hy
                    have HV : Hid (20 - j = v) := hv
                    have hvl : v < 21 := by omega
                    clear hy hv hvi
                    have hin := rIn_any r v hr (by omega) wr
                    obtain ⟨c0, c1⟩ := HL.out.ks.cells v (by omega)
                    have hat : trS f f r n j v = f v := by have := trS_at f f r n hj8; rw [HV.out] at this; exact this
                    rw [hat] at c0 c1
                    clear hat
                    have f0 := row_frozen HL.out.ks (v * 2)
                    have f1 := row_frozen HL.out.ks (v * 2 + 1)
                    have HI : Hid ((20 : Int) - ((j + 1 : Nat) : Int) = (v : Int) - 1) := by have := HV.out; unfold Hid; omega
                    have HVJ : Hid (20 - v = j) := by have := HV.out; unfold Hid; omega
                    have HJ8 : Hid (j < 21) := hj8
                    have hcdl := cd_le r j
                    have HCD : Hid (cd r (j + 1) = cd r j + b1 r v) := by have := HV.out; rw [← this]; exact rfl
                    have HTS : Hid (trS f f r n (j + 1) = kup (trS f f r n j) v (trK f r n v)) := by have := trS_step f f r n hj8; rw [HV.out] at this; exact this
                    cases hb : r.testBit v with
                    | true =>
                      rw [hb] at hin
                      obtain ⟨fk1, fk2, _⟩ := frk_at hfk (by omega : v < 21) hb
                      have HY1 : Hid (y + 1 = n + ((cd r (j + 1) : Nat) : Int)) := by have h1 := HY.out; have h2 := HCD.out; unfold b1 at h2; rw [hb] at h2; simp at h2; unfold Hid; omega
                      have hyw : IntKind.i64.wrap (y + 1) = y + 1 := i64_fit _ (by have := HY.out; omega) (by have := HY.out; omega)
                      have HL2 : Hid (TS w ((wr.setCell ⟨w.heap.size, v * 2, none⟩ (.int .i64 y)).setCell ⟨w.heap.size, v * 2 + 1, none⟩ (.int .i64 0)) (kup (trS f f r n j) v ⟨y, 0⟩)) := HL.out.set v (by omega) y 0
                      clear fk1 fk2
                      go_wp2_with (go_at_call 27; refine hin.mono ?_; rintro e wr ⟨rfl, rfl⟩)
                      go_roundw
                      case rel =>
                        refine ⟨j + 1, by have := HJ8.out; omega, by rw [HI.out], by rw [← HY1.out], ?_, fun m hm => ?_⟩
                        · rw [HTS.out, trK_new hb, HVJ.out, HY.out]
                          exact HL2.out
                        · rcases Nat.lt_or_ge m j with h | h
                          · exact HSK.out m h
                          · obtain rfl : m = j := by omega
                            unfold skk
                            rw [HV.out, hb]
                            rfl
                      case measure => simp [intOf]
                    | false =>
                      rw [hb] at hin
                      obtain ⟨hG, _⟩ := (kchk_iff.1 hkc).1 v (by omega)
                      have HY1 : Hid (y = n + ((cd r (j + 1) : Nat) : Int)) := by have h1 := HY.out; have h2 := HCD.out; unfold b1 at h2; rw [hb] at h2; simp at h2; unfold Hid; omega
                      have HTK : Hid (trK f r n v = ⟨(f v).bas, (f v).stp + 1⟩) := trK_old hb
                      have HSV : Hid (skk f r v = decide (254 < (f v).stp)) := by unfold skk; rw [hb]; rfl
                      obtain ⟨e, he⟩ : ∃ e, f v = e := ⟨_, rfl⟩
                      rw [he] at c0 c1 hG HTK HSV
                      have HFE : Hid (f v = e) := he
                      clear he
                      by_cases hst : 254 < e.stp
                      · have ha := rAhead_far e.bas e.stp 1 hG (Or.inr (by omega)) wr
                        clear f0 f1
                        go_wp2_with (go_at_call 27; refine hin.mono ?_; rintro e wr ⟨rfl, rfl⟩)
                        refine ha.mono ?_
                        rintro a w7 ⟨rfl, hb7⟩
                        have hT8 := (HL.out.later hb7).later (below_alloc w7 (.cells #[.int .i64 0, .int .i64 0] 23))
                        clear ha hb7 c0 c1
                        go_wp2_with (refine stK (g := fun _ => zK) hT8.ze rfl _ _ rfl rfl zero42' ?_)
                        refine bodyPost_ret (results_ks3 (p := 6) (t := 7) (u := 8) rfl _ _ (w.heap.size + 1) (fun _ => zK) rfl (hT8.ze.row _)) rfl ?_
                        exact ⟨TurnA.no (trE_step hkc hr2 hfk (stuck_yes (v := v) hvl (by rw [HSV.out]; exact decide_eq_true hst))) (by decide), setRow_below (by omega) hT8.bel _⟩
                      · have ha := rAhead_yes e.bas e.stp 1 hG (by omega) (by omega) wr
                        clear f0 f1
                        go_wp2_with (go_at_call 27; refine hin.mono ?_; rintro e wr ⟨rfl, rfl⟩)
                        refine ha.mono ?_
                        rintro a w7 ⟨rfl, hb7⟩
                        clear c0 c1
                        have hL8 := (HL.out.later hb7).later (below_alloc w7 (.cells #[.int .i64 e.bas, .int .i64 (e.stp + 1)] 23))
                        obtain ⟨c0, c1⟩ := hL8.ks.cells v (by omega)
                        have f0 := row_frozen hL8.ks (v * 2)
                        have f1 := row_frozen hL8.ks (v * 2 + 1)
                        have HL9 : Hid (TS w (((w7.alloc (.cells #[.int .i64 e.bas, .int .i64 (e.stp + 1)] 23)).setCell ⟨w.heap.size, v * 2, none⟩ (.int .i64 e.bas)).setCell ⟨w.heap.size, v * 2 + 1, none⟩ (.int .i64 (e.stp + 1))) (kup (trS f f r n j) v ⟨e.bas, e.stp + 1⟩)) := hL8.set v (by omega) e.bas (e.stp + 1)
                        clear ha hb7 hL8
                        go_wp2_with fail
                        go_roundw
                        case rel =>
                          refine ⟨j + 1, by have := HJ8.out; omega, by rw [HI.out], by rw [← HY1.out], ?_, fun m hm => ?_⟩
                          · rw [HTS.out, HTK.out]
                            exact HL9.out
                          · rcases Nat.lt_or_ge m j with h | h
                            · exact HSK.out m h
                            · obtain rfl : m = j := by omega
                              rw [HV.out, HSV.out]
                              exact decide_eq_false (by omega)
                        case measure => simp [intOf]
                  · obtain rfl : j = 21 := by omega
                    have HE0 : Hid (trE f r n = 0) := trE_ok hkc hr2 hfk (stuck_no fun v hv => by have := HSK.out (20 - v) (by omega); rw [show 20 - (20 - v) = v by omega] at this; exact this)
                    have hN := HL.out.ks.congr (trS_all _ _ _ _)
                    rw [show cd r 21 = cu r 21 from cd_all r]
                    obtain ⟨y, hy⟩ : ∃ y : Int, n + ((cu r 21 : Nat) : Int) = y := ⟨_, rfl⟩
                    rw [hy]
                    have HY : Hid (n + ((cu r 21 : Nat) : Int) = y) := hy
                    clear hy
                    go_upto_region 26 with (fail)
                    refine wp_region_lit ?_
                    refine ldK hN rfl _ rfl rfl ?_
                    go_wp2_with (refine stK (g := trK f r n) HL.out.ze rfl _ _ rfl rfl rfl ?_)
                    refine bodyPost_ret (results_ks3 (p := 6) (t := 7) (u := 8) rfl _ _ (w.heap.size + 1) (trK f r n) rfl (HL.out.ze.row _)) rfl ?_
                    refine ⟨?_, setRow_below (by omega) HL.out.bel _⟩
                    rw [← TurnA.yes HE0.out, HY.out]
                    rfl
end Go.Proofs.Ytgfegolignhefaa
