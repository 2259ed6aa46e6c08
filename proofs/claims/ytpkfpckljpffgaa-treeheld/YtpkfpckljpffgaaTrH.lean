/- Contracts: Held of both. -/
import Derived.Test.YtpkfpckljpffgaaTrD
import Derived.Test.YtpkfpckljpffgaaShpH
import Derived.Test.YtpkfpckljpffgaaShpF
namespace Go.Proofs.Ytpkfpckljpffgaa
open Go.RowKit
open Rt (Ky zK kcs)
open Rs (En zE rcs RoAt EnAt tkn tk)
open Sh (belB msk)
set_option linter.unusedVariables false
set_option linter.unusedSimpArgs false

theorem hld_and (r : Nat → En) (v : Int) : (bits .and .u64 ((tk r : Nat) : Int) (msk v) != 0) = hld r v := by
  have h := Sh.hit_and v ((tk r : Nat) : Int) (by omega) (by have := Rs.tk_lt r; omega)
  obtain ⟨m0, m1⟩ := Sh.msk_bd v
  rw [u64_and _ _ m0 m1 (by omega) (by have := Rs.tk_lt r; omega), Nat.and_comm, ← u64_and _ _ (by omega) (by have := Rs.tk_lt r; omega) m0 m1, hit_hld] at h
  exact h
set_option maxRecDepth 100000 in
set_option maxHeartbeats 1000000 in
theorem held_any (t : Tr) (v : Int) (w : World) : Calls Try.prog 17 #[.agg (tcs t), .int .i64 v] w fun e w' => e = .returned (.bool (hdB t v)) ∧ Below w.heap.size w w' := by
  have hn := TrAt.new w t
  have hB1 := alloc_tr w t
  have h1 := check_any t
  have h2 := Rs.taken_any t.ro
  have h3 := Sh.mask_any v
  have HQ : Hid ((bits .and .u64 ((tk t.ro : Nat) : Int) (msk v) != 0) = hld t.ro v) := hld_and t.ro v
  obtain ⟨cr, hcr⟩ : ∃ c, rcs t.ro = c := ⟨_, rfl⟩
  obtain ⟨ct, hct⟩ : ∃ c, tcs t = c := ⟨_, rfl⟩
  simp only [hcr] at h2
  simp only [hct] at h1
  have HR : Hid (rcs t.ro = cr) := hcr
  have HT : Hid (tcs t = ct) := hct
  clear hcr hct
  generalize ((tk t.ro : Nat) : Int) = T at *
  generalize msk v = M at *
  go_enter Try.func17, Try.ntmps17
  go_upto_region 1 with (fail)
  generalize w.alloc (.cells (tcs t) 31) = w1 at *
  rw [HT.out]
  obtain ⟨B, hBB⟩ : ∃ B, w.heap.size = B := ⟨_, rfl⟩
  rw [hBB] at hn ⊢
  clear hBB
  go_wp2_with (refine rdT hn HT.out _ rfl rfl rfl ?_)
  refine (h1 _).mono ?_
  rintro r w2 ⟨rfl, hb2⟩
  have hn2 := hn.later hb2
  have hB2 := hB1.trans (hb2.mono hB1.size)
  clear h1 hn hB1 hb2
  cases hk : tck t with
  | false =>
    rw [tckE_ff hk]
    go_wp2_with fail
    go_ret
    exact ⟨ret_bool (by unfold hdB; rw [hk]; rfl), hB2⟩
  | true =>
    rw [tckE_tt hk]
    go_wp2_with (refine rdR hn2 HR.out _ rfl rfl rfl ?_)
    refine (h2 _).mono ?_
    rintro r w3 ⟨rfl, hb3⟩
    have hB3 := hB2.trans (hb3.mono hB2.size)
    clear h2 hn2 hB2 hb3
    go_wp2_with (go_at_call 40; refine (h3 _).mono ?_; rintro r w3 ⟨rfl, rfl⟩)
    go_ret
    exact ⟨ret_bool (by unfold hdB; rw [hk, Bool.true_and, ← HQ.out]), hB3⟩
set_option maxRecDepth 100000 in
set_option maxHeartbeats 1000000 in
theorem rBel_any (f : Nat → En) (v : Int) (w : World) : Calls Try.prog 41 #[.agg (rcs f), .int .i64 v] w fun e w' => e = .returned (.bool (hld f v)) ∧ Below w.heap.size w w' := by
  have hn := RoAt.new w f
  have hB1 := Rs.alloc_ro w f
  go_enter Try.func41, Try.ntmps41
  go_upto_region 1 with (fail)
  generalize w.alloc (.cells (rcs f) 29) = w1 at *
  obtain ⟨c, hc⟩ : ∃ c, rcs f = c := ⟨_, rfl⟩
  rw [hc]
  clear hc
  obtain ⟨B, hBB⟩ : ∃ B, w.heap.size = B := ⟨_, rfl⟩
  rw [hBB] at hn ⊢
  clear hBB
  go_wp2_with fail
  go_loopw [5] (fun i wx => ∃ k : Nat, k ≤ 64 ∧ i = .int .i64 (k : Int) ∧ wx = w1 ∧ ∀ j, j < k → (tkn (f j) && belB v (21 + (j : Int))) = false) (fun i _ => 64 - (intOf i).toNat)
  case atStart => exact ⟨0, by omega, rfl, rfl, fun j hj => by omega⟩
  case round =>
    obtain ⟨k, hk, rfl, rfl, hf⟩ := hrel
    have HF : Hid (∀ j, j < k → (tkn (f j) && belB v (21 + (j : Int))) = false) := hf
    have HB : Hid (Below w.heap.size w wr) := hB1
    clear hf hB1
    by_cases hk8 : k < 64
    · have k8 : (k : Int) < 64 := by omega
      have k0 : (0 : Int) ≤ (k : Int) := by omega
      obtain ⟨c0, c1, c2⟩ := hn.cells k hk8
      have hl := Sh.rLeaf_yes (k : Int) (by omega) (by omega)
      have hbl := Sh.rBelow_any v (21 + (k : Int))
      obtain ⟨e, he⟩ : ∃ e, f k = e := ⟨_, rfl⟩
      rw [he] at c0 c1 c2
      have HE : Hid (f k = e) := he
      clear he
      cases ht : tkn e with
      | false =>
        have hb0 := Rs.tkn_neg ht
        have q1 : (e.bas != 0) = false := by simp [hb0]
        clear hb0
        go_wp2_with fail
        go_roundw
        case rel =>
          refine ⟨k + 1, by omega, by go_num, (by first | rfl | trivial), fun j hj => ?_⟩
          rcases Nat.lt_or_ge j k with h | h
          · exact HF.out j h
          · obtain rfl : j = k := by omega
            rw [HE.out, ht]
            rfl
        case measure => simp [intOf]; omega
      | true =>
        have q1 : (e.bas != 0) = true := by simp [Rs.tkn_pos ht]
        cases hbb : belB v (21 + (k : Int)) with
        | false =>
          rw [hbb] at hbl
          go_wp2_with (first | (go_at_call 24; refine (hl _).mono ?_; rintro r wr ⟨rfl, rfl⟩) | (go_at_call 64; refine (hbl _).mono ?_; rintro r wr ⟨rfl, rfl⟩))
          go_roundw
          case rel =>
            refine ⟨k + 1, by omega, by go_num, (by first | rfl | trivial), fun j hj => ?_⟩
            rcases Nat.lt_or_ge j k with h | h
            · exact HF.out j h
            · obtain rfl : j = k := by omega
              rw [HE.out, ht, hbb]
              rfl
          case measure => simp [intOf]; omega
        | true =>
          rw [hbb] at hbl
          go_wp2_with (first | (go_at_call 24; refine (hl _).mono ?_; rintro r wr ⟨rfl, rfl⟩) | (go_at_call 64; refine (hbl _).mono ?_; rintro r wr ⟨rfl, rfl⟩))
          go_ret
          exact ⟨ret_bool (by unfold hld; rw [any_yes hk8 (by rw [HE.out, ht, hbb]; rfl)]), HB.out⟩
    · obtain rfl : k = 64 := by omega
      go_wp2_with fail
      go_ret
      exact ⟨ret_bool (by unfold hld; rw [any_no HF.out]), HB.out⟩
set_option maxRecDepth 100000 in
set_option maxHeartbeats 1000000 in
theorem rHeld_any (t : Tr) (v : Int) (w : World) : Calls Try.prog 18 #[.agg (tcs t), .int .i64 v] w fun e w' => e = .returned (.bool (hdB t v)) ∧ Below w.heap.size w w' := by
  have hn := TrAt.new w t
  have hB1 := alloc_tr w t
  have h1 := rCheck_any t
  have h2 := rBel_any t.ro v
  obtain ⟨cr, hcr⟩ : ∃ c, rcs t.ro = c := ⟨_, rfl⟩
  obtain ⟨ct, hct⟩ : ∃ c, tcs t = c := ⟨_, rfl⟩
  simp only [hcr] at h2
  simp only [hct] at h1
  have HR : Hid (rcs t.ro = cr) := hcr
  have HT : Hid (tcs t = ct) := hct
  clear hcr hct
  go_enter Try.func18, Try.ntmps18
  go_upto_region 1 with (fail)
  generalize w.alloc (.cells (tcs t) 31) = w1 at *
  rw [HT.out]
  obtain ⟨B, hBB⟩ : ∃ B, w.heap.size = B := ⟨_, rfl⟩
  rw [hBB] at hn ⊢
  clear hBB
  go_wp2_with (refine rdT hn HT.out _ rfl rfl rfl ?_)
  refine (h1 _).mono ?_
  rintro r w2 ⟨rfl, hb2⟩
  have hn2 := hn.later hb2
  have hB2 := hB1.trans (hb2.mono hB1.size)
  clear h1 hn hB1 hb2
  cases hk : tck t with
  | false =>
    rw [tckE_ff hk]
    go_wp2_with fail
    go_ret
    exact ⟨ret_bool (by unfold hdB; rw [hk]; rfl), hB2⟩
  | true =>
    rw [tckE_tt hk]
    go_wp2_with (refine rdR hn2 HR.out _ rfl rfl rfl ?_)
    refine (h2 _).mono ?_
    rintro r w3 ⟨rfl, hb3⟩
    have hB3 := hB2.trans (hb3.mono hB2.size)
    clear h2 hn2 hB2 hb3
    go_wp2_with fail
    go_ret
    exact ⟨ret_bool (by unfold hdB; rw [hk, Bool.true_and]), hB3⟩
end Go.Proofs.Ytpkfpckljpffgaa
