/- Contracts of the document's answers: Parent, Which, Level, Slot. -/
import Derived.Test.YtchlbdnbiinlmaaShpC
namespace Go.Proofs.Ytchlbdnbiinlmaa
open Go.RowKit

theorem rSlot_any (v : Int) (w : World) :
    Calls Try.prog 19 #[.int .i64 v] w fun e w' => e = .returned (.int .i64 (slo v)) ∧ w' = w := by
  by_cases h0 : 21 ≤ v
  · by_cases h1 : v < 85
    · go_enter Try.func19, Try.ntmps19
      go_wp2
      go_ret
      exact ⟨ret_int (slo_yes h0 h1).symm, rfl⟩
    · have hp : Hid (slo v = -1) := slo_no (by omega)
      go_enter Try.func19, Try.ntmps19
      go_wp2
      go_ret
      exact ⟨ret_int hp.out.symm, rfl⟩
  · have hp : Hid (slo v = -1) := slo_no (by omega)
    go_enter Try.func19, Try.ntmps19
    go_wp2
    go_ret
    exact ⟨ret_int hp.out.symm, rfl⟩

theorem rChild_yes (v i : Int) (h0 : 0 ≤ v) (h1 : v < 21) (h2 : 0 ≤ i) (h3 : i < 4) (w : World) :
    Calls Try.prog 15 #[.int .i64 v, .int .i64 i] w fun e w' => e = .returned (.int .i64 (4 * v + 1 + i)) ∧ w' = w := by
  rw [← chd_yes h0 h1 h2 h3]; exact rChild_any v i w

theorem rParent_any (v : Int) (w : World) :
    Calls Try.prog 13 #[.int .i64 v] w fun e w' => e = .returned (.int .i64 (par v)) ∧ w' = w := by
  by_cases h0 : 1 ≤ v
  · by_cases h1 : v < 85
    · have hp : Hid (par v = (v - 1) / 4) := par_yes h0 h1
      go_enter Try.func13, Try.ntmps13
      go_wp2
      go_loop [3, 4] (fun p _ => ∃ k : Nat, k ≤ 20 ∧ 4 * (k : Int) + 1 ≤ v ∧ p = .int .i64 k) (fun p _ => 21 - (intOf p).toNat)
      case atStart => exact ⟨0, by omega, by omega, rfl⟩
      case round =>
        obtain ⟨k, hk, hf, rfl⟩ := hrel
        go_wp2
        go_loop [4] (fun i => ∃ j : Nat, j ≤ 4 ∧ 4 * (k : Int) + 1 + j ≤ v ∧ i = .int .i64 j) (fun i => 4 - (intOf i).toNat)
        case atStart => exact ⟨0, by omega, by omega, rfl⟩
        case round =>
          obtain ⟨j, hj, hg, rfl⟩ := hrel
          by_cases hlt : j < 4
          · by_cases heq : 4 * (k : Int) + 1 + j = v
            · have hb : (4 * (k : Int) + 1 + j == v) = true := by simpa using heq
              have hq : Hid ((k : Int) = par v) := by show (k : Int) = par v; rw [hp.out]; omega
              clear heq
              go_wp2_with (go_at_call 15; refine (rChild_yes _ _ (by omega) (by omega) (by omega) (by omega) _).mono ?_; rintro e w' ⟨rfl, rfl⟩)
              go_ret
              exact ⟨ret_int hq.out, rfl⟩
            · have hb : (4 * (k : Int) + 1 + j == v) = false := by simpa using heq
              go_wp2_with (go_at_call 15; refine (rChild_yes _ _ (by omega) (by omega) (by omega) (by omega) _).mono ?_; rintro e w' ⟨rfl, rfl⟩)
              go_round
              case rel => exact ⟨j + 1, by omega, by omega, by go_num⟩
              case measure => simp [intOf]; omega
          · go_wp2
            go_round
            case rel => exact ⟨k + 1, by omega, by omega, by go_num⟩
            case measure => simp [intOf]; omega
    · have hp : Hid (par v = -1) := par_no (by omega)
      go_enter Try.func13, Try.ntmps13
      go_wp2
      go_ret
      exact ⟨ret_int hp.out.symm, rfl⟩
  · have hp : Hid (par v = -1) := par_no (by omega)
    go_enter Try.func13, Try.ntmps13
    go_wp2
    go_ret
    exact ⟨ret_int hp.out.symm, rfl⟩

theorem rWhich_any (v : Int) (w : World) :
    Calls Try.prog 17 #[.int .i64 v] w fun e w' => e = .returned (.int .i64 (whc v)) ∧ w' = w := by
  by_cases h : 1 ≤ v ∧ v < 85
  · obtain ⟨h0, h1⟩ := h
    have hp : Hid (par v = (v - 1) / 4) := par_yes h0 h1
    have hw : Hid (whc v = (v - 1) % 4) := whc_yes h0 h1
    have hP : ∀ w, Calls Try.prog 13 #[.int .i64 v] w fun e w' => e = .returned (.int .i64 ((v - 1) / 4)) ∧ w' = w := by
      intro w; rw [← hp.out]; exact rParent_any v w
    have HP : Hid (∀ w, Calls Try.prog 13 #[.int .i64 v] w fun e w' => e = .returned (.int .i64 ((v - 1) / 4)) ∧ w' = w) := hP
    clear hP
    go_enter Try.func17, Try.ntmps17
    go_wp2_with (go_at_call 13; refine (HP.out _).mono ?_; rintro e w' ⟨rfl, rfl⟩)
    go_loop [4] (fun i => ∃ j : Nat, j ≤ 3 ∧ 4 * ((v - 1) / 4) + 1 + j ≤ v ∧ i = .int .i64 j) (fun i => 4 - (intOf i).toNat)
    case atStart => exact ⟨0, by omega, by omega, rfl⟩
    case round =>
      obtain ⟨j, hj, hg, rfl⟩ := hrel
      by_cases heq : 4 * ((v - 1) / 4) + 1 + (j : Int) = v
      · have hb : (4 * ((v - 1) / 4) + 1 + (j : Int) == v) = true := by simpa using heq
        have hq : Hid ((j : Int) = whc v) := by show (j : Int) = whc v; rw [hw.out]; omega
        clear heq
        go_wp2_with (go_at_call 15; refine (rChild_yes _ _ (by omega) (by omega) (by omega) (by omega) _).mono ?_; rintro e w' ⟨rfl, rfl⟩)
        go_ret
        exact ⟨ret_int hq.out, rfl⟩
      · have hb : (4 * ((v - 1) / 4) + 1 + (j : Int) == v) = false := by simpa using heq
        go_wp2_with (go_at_call 15; refine (rChild_yes _ _ (by omega) (by omega) (by omega) (by omega) _).mono ?_; rintro e w' ⟨rfl, rfl⟩)
        go_round
        case rel => exact ⟨j + 1, by omega, by omega, by go_num⟩
        case measure => simp [intOf]; omega
  · have hp : Hid (par v = -1) := par_no (by omega)
    have hw : Hid (whc v = -1) := whc_no (by omega)
    have hP : ∀ w, Calls Try.prog 13 #[.int .i64 v] w fun e w' => e = .returned (.int .i64 (-1)) ∧ w' = w := by
      intro w; rw [← hp.out]; exact rParent_any v w
    have HP : Hid (∀ w, Calls Try.prog 13 #[.int .i64 v] w fun e w' => e = .returned (.int .i64 (-1)) ∧ w' = w) := hP
    clear hP
    go_enter Try.func17, Try.ntmps17
    go_wp2_with (go_at_call 13; refine (HP.out _).mono ?_; rintro e w' ⟨rfl, rfl⟩)
    go_loop [4] (fun i => i = .int .i64 0) (fun _ => 0)
    case atStart => rfl
    case round =>
      subst hrel
      go_wp2
      go_ret
      exact ⟨ret_int hw.out.symm, rfl⟩

theorem rLevel_any (v : Int) (w : World) :
    Calls Try.prog 11 #[.int .i64 v] w fun e w' => e = .returned (.int .i64 (lev v)) ∧ w' = w := by
  by_cases h : 0 ≤ v ∧ v < 85
  · obtain ⟨h0, h1⟩ := h
    have hl := lev_bd h0 h1
    go_enter Try.func11, Try.ntmps11
    go_wp2_with (go_at_call 35; refine (rNode_yes _ (by omega) (by omega) _).mono ?_; rintro e w' ⟨rfl, rfl⟩)
    go_loop [0, 3] (fun u n => ∃ x k : Int, 0 ≤ x ∧ x < 85 ∧ 0 ≤ k ∧ k ≤ 3 ∧ k + lev x = lev v ∧ u = .int .i64 x ∧ n = .int .i64 k) (fun u _ => (intOf u).toNat)
    case atStart => exact ⟨v, 0, h0, h1, by omega, by omega, by omega, rfl, rfl⟩
    case round =>
      obtain ⟨x, k, hx0, hx1, hk0, hk1, hs, rfl, rfl⟩ := hrel
      have HS : Hid (k + lev x = lev v) := hs
      clear hs
      by_cases hx : 0 < x
      · have hp := par_yes (v := x) (by omega) hx1
        have hq := lev_par (v := x) (by omega) hx1
        have hb := lev_bd hx0 hx1
        have hlp : 0 ≤ par x ∧ par x < x := by omega
        have hlq := lev_bd (v := par x) (by omega) (by omega)
        have HQ : Hid (lev (par x) = lev x - 1) := hq
        clear hp hq
        go_wp2_with (go_at_call 13; refine (rParent_any _ _).mono ?_; rintro e w' ⟨rfl, rfl⟩)
        go_round
        case rel => exact ⟨par x, k + 1, by omega, by omega, by omega, by have := HQ.out; have := HS.out; omega, by have := HQ.out; have := HS.out; omega, rfl, rfl⟩
        case measure => simp [intOf]; omega
      · have hz : Hid (k = lev v) := by
          show k = lev v
          have : x = 0 := by omega
          have := HS.out
          subst x
          simp [lev] at this ⊢
          omega
        go_wp2
        go_ret
        exact ⟨ret_int hz.out, rfl⟩
  · have hp : Hid (lev v = -1) := by show lev v = -1; simp only [lev]; repeat' split
                                     all_goals omega
    go_enter Try.func11, Try.ntmps11
    go_wp2_with (go_at_call 35; refine (rNode_no _ (by omega) _).mono ?_; rintro e w' ⟨rfl, rfl⟩)
    go_ret
    exact ⟨ret_int hp.out.symm, rfl⟩
end Go.Proofs.Ytchlbdnbiinlmaa
