/- Contracts: leaves and slots, levels; the document's children, parents and levels. -/
import Derived.Test.YtchlbdnbiinlmabShpA
namespace Go.Proofs.Ytchlbdnbiinlmab
open Go.RowKit

theorem isSlot_yes (v : Int) (h0 : 0 ≤ v) (h1 : v < 64) (w : World) :
    Calls Try.prog 21 #[.int .i64 v] w fun e w' => e = .returned (.bool true) ∧ w' = w := by
  go_enter Try.func21, Try.ntmps21
  go_wp2
  go_ret
  exact ⟨rfl, rfl⟩
theorem isSlot_no (v : Int) (h : v < 0 ∨ 64 ≤ v) (w : World) :
    Calls Try.prog 21 #[.int .i64 v] w fun e w' => e = .returned (.bool false) ∧ w' = w := by
  by_cases h0 : 0 ≤ v
  · have h1 : decide (v < 64) = false := by simp; omega
    clear h
    go_enter Try.func21, Try.ntmps21
    go_wp2
    go_ret
    exact ⟨ret_bool (by first | rfl | exact h1), rfl⟩
  · clear h
    go_enter Try.func21, Try.ntmps21
    go_wp2
    go_ret
    exact ⟨rfl, rfl⟩
theorem first_any (k : Nat) (h : k ≤ 4) (w : World) :
    Calls Try.prog 19 #[.int .i64 (k : Int)] w fun e w' => e = .returned (.int .i64 (fst k)) ∧ w' = w := by
  match k, h with
  | 0, _ => go_enter Try.func19, Try.ntmps19; go_wp2; go_ret; exact ⟨rfl, rfl⟩
  | 1, _ => go_enter Try.func19, Try.ntmps19; go_wp2; go_ret; exact ⟨rfl, rfl⟩
  | 2, _ => go_enter Try.func19, Try.ntmps19; go_wp2; go_ret; exact ⟨rfl, rfl⟩
  | 3, _ => go_enter Try.func19, Try.ntmps19; go_wp2; go_ret; exact ⟨rfl, rfl⟩
  | 4, _ => go_enter Try.func19, Try.ntmps19; go_wp2; go_ret; exact ⟨rfl, rfl⟩

theorem level_any (v : Int) (w : World) :
    Calls Try.prog 18 #[.int .i64 v] w fun e w' => e = .returned (.int .i64 (lev v)) ∧ w' = w := by
  by_cases h : 0 ≤ v ∧ v < 85
  · obtain ⟨h0, h1⟩ := h
    go_enter Try.func18, Try.ntmps18
    go_wp2_with (go_at_call 12; refine (isNode_yes _ (by omega) (by omega) _).mono ?_; rintro e w' ⟨rfl, rfl⟩)
    go_loop [3] (fun t => ∃ k : Nat, k ≤ 3 ∧ fst k ≤ v ∧ t = .int .i64 k) (fun t => 4 - (intOf t).toNat)
    case atStart => exact ⟨0, by omega, by simpa [fst] using h0, rfl⟩
    case round =>
      obtain ⟨k, hk, hf, rfl⟩ := hrel
      by_cases hc : fst ((k : Int) + 1) ≤ v
      · go_wp2_with (go_at_call 19; refine (first_any (k + 1) (by omega) _).mono ?_; rintro e w' ⟨rfl, rfl⟩)
        go_round
        case rel => exact ⟨k + 1, by simp only [fst] at hc; omega, by simpa using hc, by go_num⟩
        case measure => simp [intOf]; omega
      · go_wp2_with (go_at_call 19; refine (first_any (k + 1) (by omega) _).mono ?_; rintro e w' ⟨rfl, rfl⟩)
        go_ret
        exact ⟨ret_int (by simp only [fst, lev] at *; omega), rfl⟩
  · have hp : Hid (lev v = -1) := by show lev v = -1; simp only [lev]; repeat' split
                                     all_goals omega
    go_enter Try.func18, Try.ntmps18
    go_wp2_with (go_at_call 12; refine (isNode_no _ (by omega) _).mono ?_; rintro e w' ⟨rfl, rfl⟩)
    go_ret
    exact ⟨ret_int hp.out.symm, rfl⟩
end Go.Proofs.Ytchlbdnbiinlmab
