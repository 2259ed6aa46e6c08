/- Contracts: leaves and slots, levels; the document's children, parents and levels. -/
import Derived.Test.YtpkfpckljpffgaaShpA
namespace Go.Proofs.Ytpkfpckljpffgaa.Sh
open Go.RowKit

theorem isSlot_yes (v : Int) (h0 : 0 ≤ v) (h1 : v < 64) (w : World) :
    Calls Try.prog 65 #[.int .i64 v] w fun e w' => e = .returned (.bool true) ∧ w' = w := by
  go_enter Try.func65, Try.ntmps65
  go_wp2
  go_ret
  exact ⟨rfl, rfl⟩
theorem isSlot_no (v : Int) (h : v < 0 ∨ 64 ≤ v) (w : World) :
    Calls Try.prog 65 #[.int .i64 v] w fun e w' => e = .returned (.bool false) ∧ w' = w := by
  by_cases h0 : 0 ≤ v
  · have h1 : decide (v < 64) = false := by simp; omega
    clear h
    go_enter Try.func65, Try.ntmps65
    go_wp2
    go_ret
    exact ⟨ret_bool (by first | rfl | exact h1), rfl⟩
  · clear h
    go_enter Try.func65, Try.ntmps65
    go_wp2
    go_ret
    exact ⟨rfl, rfl⟩
theorem leaf_any (v : Int) (w : World) :
    Calls Try.prog 43 #[.int .i64 v] w fun e w' => e = .returned (.int .i64 (lef v)) ∧ w' = w := by
  by_cases h : 0 ≤ v ∧ v < 64
  · obtain ⟨h0, h1⟩ := h
    go_enter Try.func43, Try.ntmps43
    go_wp2_with (go_at_call 65; refine (isSlot_yes _ (by omega) (by omega) _).mono ?_; rintro e w' ⟨rfl, rfl⟩)
    go_ret
    exact ⟨ret_int (lef_yes h0 h1).symm, rfl⟩
  · have hp : Hid (lef v = -1) := lef_no (by omega)
    go_enter Try.func43, Try.ntmps43
    go_wp2_with (go_at_call 65; refine (isSlot_no _ (by omega) _).mono ?_; rintro e w' ⟨rfl, rfl⟩)
    go_ret
    exact ⟨ret_int hp.out.symm, rfl⟩
theorem slot_any (v : Int) (w : World) :
    Calls Try.prog 35 #[.int .i64 v] w fun e w' => e = .returned (.int .i64 (slo v)) ∧ w' = w := by
  by_cases h : 0 ≤ v ∧ v < 85
  · obtain ⟨h0, h1⟩ := h
    by_cases h2 : v < 21
    · have hp : Hid (slo v = -1) := slo_no (by omega)
      go_enter Try.func35, Try.ntmps35
      go_wp2_with (first | (go_at_call 55; refine (isNode_yes _ (by omega) (by omega) _).mono ?_; rintro e w' ⟨rfl, rfl⟩) | (go_at_call 57; refine (isInner_yes _ (by omega) (by omega) _).mono ?_; rintro e w' ⟨rfl, rfl⟩))
      go_ret
      exact ⟨ret_int hp.out.symm, rfl⟩
    · go_enter Try.func35, Try.ntmps35
      go_wp2_with (first | (go_at_call 55; refine (isNode_yes _ (by omega) (by omega) _).mono ?_; rintro e w' ⟨rfl, rfl⟩) | (go_at_call 57; refine (isInner_no _ (by omega) _).mono ?_; rintro e w' ⟨rfl, rfl⟩))
      go_ret
      exact ⟨ret_int (slo_yes (by omega) (by omega)).symm, rfl⟩
  · have hp : Hid (slo v = -1) := slo_no (by omega)
    go_enter Try.func35, Try.ntmps35
    go_wp2_with (go_at_call 55; refine (isNode_no _ (by omega) _).mono ?_; rintro e w' ⟨rfl, rfl⟩)
    go_ret
    exact ⟨ret_int hp.out.symm, rfl⟩

theorem first_any (k : Nat) (h : k ≤ 4) (w : World) :
    Calls Try.prog 56 #[.int .i64 (k : Int)] w fun e w' => e = .returned (.int .i64 (fst k)) ∧ w' = w := by
  match k, h with
  | 0, _ => go_enter Try.func56, Try.ntmps56; go_wp2; go_ret; exact ⟨rfl, rfl⟩
  | 1, _ => go_enter Try.func56, Try.ntmps56; go_wp2; go_ret; exact ⟨rfl, rfl⟩
  | 2, _ => go_enter Try.func56, Try.ntmps56; go_wp2; go_ret; exact ⟨rfl, rfl⟩
  | 3, _ => go_enter Try.func56, Try.ntmps56; go_wp2; go_ret; exact ⟨rfl, rfl⟩
  | 4, _ => go_enter Try.func56, Try.ntmps56; go_wp2; go_ret; exact ⟨rfl, rfl⟩

theorem level_any (v : Int) (w : World) :
    Calls Try.prog 34 #[.int .i64 v] w fun e w' => e = .returned (.int .i64 (lev v)) ∧ w' = w := by
  by_cases h : 0 ≤ v ∧ v < 85
  · obtain ⟨h0, h1⟩ := h
    go_enter Try.func34, Try.ntmps34
    go_wp2_with (go_at_call 55; refine (isNode_yes _ (by omega) (by omega) _).mono ?_; rintro e w' ⟨rfl, rfl⟩)
    go_loop [3] (fun t => ∃ k : Nat, k ≤ 3 ∧ fst k ≤ v ∧ t = .int .i64 k) (fun t => 4 - (intOf t).toNat)
    case atStart => exact ⟨0, by omega, by simpa [fst] using h0, rfl⟩
    case round =>
      obtain ⟨k, hk, hf, rfl⟩ := hrel
      by_cases hc : fst ((k : Int) + 1) ≤ v
      · go_wp2_with (go_at_call 56; refine (first_any (k + 1) (by omega) _).mono ?_; rintro e w' ⟨rfl, rfl⟩)
        go_round
        case rel => exact ⟨k + 1, by simp only [fst] at hc; omega, by simpa using hc, by go_num⟩
        case measure => simp [intOf]; omega
      · go_wp2_with (go_at_call 56; refine (first_any (k + 1) (by omega) _).mono ?_; rintro e w' ⟨rfl, rfl⟩)
        go_ret
        exact ⟨ret_int (by simp only [fst, lev] at *; omega), rfl⟩
  · have hp : Hid (lev v = -1) := by show lev v = -1; simp only [lev]; repeat' split
                                     all_goals omega
    go_enter Try.func34, Try.ntmps34
    go_wp2_with (go_at_call 55; refine (isNode_no _ (by omega) _).mono ?_; rintro e w' ⟨rfl, rfl⟩)
    go_ret
    exact ⟨ret_int hp.out.symm, rfl⟩
end Go.Proofs.Ytpkfpckljpffgaa.Sh
