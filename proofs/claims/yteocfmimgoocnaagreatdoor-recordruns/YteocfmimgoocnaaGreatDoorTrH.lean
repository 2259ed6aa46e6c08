/- Contracts: Held of both. -/
import Derived.Test.YteocfmimgoocnaaGreatDoorTrJ3
import Derived.Test.YteocfmimgoocnaaGreatDoorShK
namespace Go.Proofs.YteocfmimgoocnaaGreatDoor
open Go.RowKit
open Rt (Ky zK kcs)
open Rs (En zE rcs RoAt EnAt tkn tk)
open Sh (belB msk)
set_option linter.unusedVariables false
set_option linter.unusedSimpArgs false

theorem hld_and (r : Nat → En) (v : Int) : (bits .and .u64 ((tk r : Nat) : Int) (msk v) != 0) = hld r v := by
  have h := Sh.hit_and v ((tk r : Nat) : Int) (by omega) (by have := Rs.tk_lt r; omega)
  obtain ⟨m0, m1⟩ := Sh.msk_bd v
  rw [u64_and _ _ m0 m1 (by omega) (by have := Rs.tk_lt r; omega), Nat.and_comm, ← u64_and _ _ (by omega) (by have := Rs.tk_lt r; omega) m0 m1, hit_hld] at h
  exact h
set_option maxRecDepth 100000 in
set_option maxHeartbeats 1000000 in
theorem rBel_any (f : Nat → En) (v : Int) (w : World) : Calls Tryz.prog 48 #[.agg (rcs f), .int .i64 v] w fun e w' => e = .returned (.bool (hld f v)) ∧ Below w.heap.size w w' := by
  have hn := RoAt.new w f
  have hB1 := Rs.alloc_ro w f
  go_enter Tryz.func48, Tryz.ntmps48
  go_upto_region 1 with (fail)
  generalize w.alloc (.cells (rcs f) 29) = w1 at *
  obtain ⟨c, hc⟩ : ∃ c, rcs f = c := ⟨_, rfl⟩
  rw [hc]
  clear hc
  obtain ⟨B, hBB⟩ : ∃ B, w.heap.size = B := ⟨_, rfl⟩
  rw [hBB] at hn ⊢
  clear hBB
  go_wp2_with fail
  go_loopw [5] (fun i wx => ∃ k : Nat, k ≤ 64 ∧ i = .int .i64 (k : Int) ∧ wx = w1 ∧ ∀ j, j < k → (tkn (f j) && belB v (21 + (j : Int))) = false) (fun i _ => 64 - (intOf i).toNat)
  case atStart => exact ⟨0, by omega, rfl, rfl, fun j hj => by omega⟩
  case round =>
    obtain ⟨k, hk, rfl, rfl, hf⟩ := hrel
    have HF : Hid (∀ j, j < k → (tkn (f j) && belB v (21 + (j : Int))) = false) := hf
    have HB : Hid (Below w.heap.size w wr) := hB1
    clear hf hB1
    by_cases hk8 : k < 64
    · have k8 : (k : Int) < 64 := by omega
      have k0 : (0 : Int) ≤ (k : Int) := by omega
      obtain ⟨c0, c1, c2⟩ := hn.cells k hk8
      have hl := Sh.rLeaf_yes (k : Int) (by omega) (by omega)
      have hbl := Sh.rBelow_any v (21 + (k : Int))
      obtain ⟨e, he⟩ : ∃ e, f k = e := ⟨_, rfl⟩
      rw [he] at c0 c1 c2
      have HE : Hid (f k = e) := he
      clear he
      cases ht : tkn e with
      | false =>
        have hb0 := Rs.tkn_neg ht
        have q1 : (e.bas != 0) = false := by simp [hb0]
        clear hb0
        go_wp2_with fail
        go_roundw
        case rel =>
          refine ⟨k + 1, by omega, by go_num, (by first | rfl | trivial), fun j hj => ?_⟩
          rcases Nat.lt_or_ge j k with h | h
          · exact HF.out j h
          · obtain rfl : j = k := by omega
            rw [HE.out, ht]
            rfl
        case measure => simp [intOf]; omega
      | true =>
        have q1 : (e.bas != 0) = true := by simp [Rs.tkn_pos ht]
        cases hbb : belB v (21 + (k : Int)) with
        | false =>
          rw [hbb] at hbl
          go_wp2_with (first | (go_at_call 51; refine (hl _).mono ?_; rintro r wr ⟨rfl, rfl⟩) | (go_at_call 78; refine (hbl _).mono ?_; rintro r wr ⟨rfl, rfl⟩))
          go_roundw
          case rel =>
            refine ⟨k + 1, by omega, by go_num, (by first | rfl | trivial), fun j hj => ?_⟩
            rcases Nat.lt_or_ge j k with h | h
            · exact HF.out j h
            · obtain rfl : j = k := by omega
              rw [HE.out, ht, hbb]
              rfl
          case measure => simp [intOf]; omega
        | true =>
          rw [hbb] at hbl
          go_wp2_with (first | (go_at_call 51; refine (hl _).mono ?_; rintro r wr ⟨rfl, rfl⟩) | (go_at_call 78; refine (hbl _).mono ?_; rintro r wr ⟨rfl, rfl⟩))
          go_ret
          exact ⟨ret_bool (by unfold hld; rw [any_yes hk8 (by rw [HE.out, ht, hbb]; rfl)]), HB.out⟩
    · obtain rfl : k = 64 := by omega
      go_wp2_with fail
      go_ret
      exact ⟨ret_bool (by unfold hld; rw [any_no HF.out]), HB.out⟩
end Go.Proofs.YteocfmimgoocnaaGreatDoor
