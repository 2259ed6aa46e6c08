/- Contracts: the document's Find; Taken of both. -/
import Derived.Test.YtpkfpckljpffgaaRsA
namespace Go.Proofs.Ytpkfpckljpffgaa.Rs
open Go.RowKit
set_option linter.unusedVariables false
set_option linter.unusedSimpArgs false

set_option maxRecDepth 100000 in
set_option maxHeartbeats 400000 in
theorem rFind_any (f : Nat → En) (x : Int) (w : World) : Calls Try.prog 44 #[.agg (rcs f), .int .i64 x] w fun r w' => r = .returned (.int .i64 (fnd f x)) ∧ Below w.heap.size w w' := by
  have hn := RoAt.new w f
  have hB1 := alloc_ro w f
  go_enter Try.func44, Try.ntmps44
  go_upto_region 1 with (fail)
  generalize w.alloc (.cells (rcs f) 29) = w1 at *
  obtain ⟨c, hc⟩ : ∃ c, rcs f = c := ⟨_, rfl⟩
  rw [hc]
  clear hc
  go_wp2_with fail
  go_loop [5] (fun i => ∃ k : Nat, k ≤ 64 ∧ i = .int .i64 (k : Int) ∧ fnd f x = fd f x k (64 - k)) (fun i => 64 - (intOf i).toNat)
  case atStart => exact ⟨0, by omega, rfl, rfl⟩
  case round =>
    obtain ⟨k, hk, rfl, hf⟩ := hrel
    have HF : Hid (fnd f x = fd f x k (64 - k)) := hf
    clear hf
    by_cases hk8 : k < 64
    · have k8 : (k : Int) < 64 := by omega
      have HS : Hid (fnd f x = if at' f x k then (k : Int) else fd f x (k + 1) (64 - (k + 1))) := by rw [← fd_step f x hk8]; exact HF.out
      have hat : at' f x k = (tkn (f k) && decide ((f k).who = x)) := rfl
      obtain ⟨c0, c1, c2⟩ := hn.cells k hk8
      rw [hat] at HS
      generalize f k = e at *
      clear hat HF hn
      cases ht : tkn e with
      | false =>
        have hb0 := tkn_neg ht
        go_wp2_with fail
        go_round
        case rel => exact ⟨k + 1, by omega, by go_num, by rw [HS.out, ht]; rfl⟩
        case measure => simp [intOf]; omega
      | true =>
        have hb0 := tkn_pos ht
        by_cases hx : e.who = x
        · go_wp2_with fail
          go_ret
          exact ⟨ret_int (by rw [HS.out, ht, hx]; simp), hB1⟩
        · have q1 : (e.bas != 0) = true := by simp [hb0]
          have q2 : (e.who == x) = false := by simp [hx]
          go_wp2_with fail
          go_round
          case rel => exact ⟨k + 1, by omega, by go_num, by rw [HS.out, ht]; simp [hx]⟩
          case measure => simp [intOf]; omega
    · obtain rfl : k = 64 := by omega
      go_wp2_with fail
      go_ret
      exact ⟨ret_int (by rw [HF.out]; rfl), hB1⟩
set_option maxRecDepth 100000 in
set_option maxHeartbeats 400000 in
theorem taken_any (f : Nat → En) (w : World) : Calls Try.prog 39 #[.agg (rcs f)] w fun r w' => r = .returned (.int .u64 ((tk f : Nat) : Int)) ∧ Below w.heap.size w w' := by
  have hn := RoAt.new w f
  have hB1 := alloc_ro w f
  go_enter Try.func39, Try.ntmps39
  go_upto_region 2 with (fail)
  generalize w.alloc (.cells (rcs f) 29) = w1 at *
  refine wp_region_lit ?_
  refine ld25 hn rfl _ rfl rfl ?_
  obtain ⟨c, hc⟩ : ∃ c, rcs f = c := ⟨_, rfl⟩
  rw [hc]
  go_wp2_with fail
  go_loopw [3, 7] (fun t i wx => ∃ k : Nat, k ≤ 64 ∧ i = .int .i64 (k : Int) ∧ t = .int .u64 ((tkw f k : Nat) : Int) ∧ Below w1.heap.size w1 wx) (fun _ i _ => 64 - (intOf i).toNat)
  case atStart => exact ⟨0, by omega, rfl, rfl, Below.refl _ _⟩
  case round =>
    obtain ⟨k, hk, rfl, rfl, hb⟩ := hrel
    have HB : Hid (Below w.heap.size w wr) := hB1.trans (hb.mono hB1.size)
    have HBW : Hid (Below w1.heap.size w1 wr) := hb
    clear hb
    by_cases hk8 : k < 64
    · have k8 : (k : Int) < 64 := by omega
      have ht := isTaken_any (f k)
      have hi := idx25 f k hk8
      rw [hc] at hi
      have hBE := alloc_en wr (f k)
      have hp := put_any (tkw f k) (tkw_lt f k (by omega)) (k : Int)
      rw [putR_sl hk8] at hp
      have hst : tkw f (k + 1) = if tkn (f k) then put (tkw f k) k else tkw f k := rfl
      have HST : Hid (tkw f (k + 1) = if tkn (f k) then put (tkw f k) k else tkw f k) := hst
      generalize tkw f k = q at *
      clear hst
      generalize put q k = pq at *
      generalize f k = e at *
      clear hc
      go_wp2_with fail
      refine (ht _).mono ?_
      rintro r w2 ⟨rfl, hb2⟩
      have HB2 : Hid (Below wr.heap.size wr w2) := hBE.trans (hb2.mono hBE.size)
      clear hBE hb2 ht hi
      cases hkt : tkn e with
      | false =>
        go_wp2_with fail
        go_roundw
        case rel => exact ⟨k + 1, by omega, by go_num, by rw [HST.out, hkt]; rfl, HBW.out.trans (HB2.out.mono HBW.out.size)⟩
        case measure => simp [intOf]; omega
      | true =>
        go_wp2_with (go_at_call 63; refine (hp _).mono ?_; rintro r w3 ⟨rfl, rfl⟩)
        go_roundw
        case rel => exact ⟨k + 1, by omega, by go_num, by rw [HST.out, hkt]; rfl, HBW.out.trans (HB2.out.mono HBW.out.size)⟩
        case measure => simp [intOf]; omega
    · obtain rfl : k = 64 := by omega
      go_wp2_with fail
      go_ret
      exact ⟨rfl, HB.out⟩
/- The document's Taken. -/
theorem cell_alloc_lt {w : World} {a : Addr} {v : Value} (h : w.cell? a = some v) (o : Obj) : (w.alloc o).cell? a = some v := cell_later ((Below.refl _ w).alloc (Nat.le_refl _) o) h
end Go.Proofs.Ytpkfpckljpffgaa.Rs
