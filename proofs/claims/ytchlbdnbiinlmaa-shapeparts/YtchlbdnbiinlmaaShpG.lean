/- Contracts: masks, where two nodes meet; the fixed answer that every statement asks first. -/
import Derived.Test.YtchlbdnbiinlmaaShpE
import Derived.Test.YtchlbdnbiinlmaaShpEq
import Derived.Test.YtchlbdnbiinlmaaShpMath2
namespace Go.Proofs.Ytchlbdnbiinlmaa
open Go.RowKit

theorem level_of {v k : Int} (h : lev v = k) (w : World) :
    Calls Try.prog 10 #[.int .i64 v] w fun e w' => e = .returned (.int .i64 k) ∧ w' = w := by rw [← h]; exact level_any v w
theorem first0 (w : World) : Calls Try.prog 34 #[.int .i64 0] w fun e w' => e = .returned (.int .i64 0) ∧ w' = w := first_any 0 (by omega) w
theorem first1 (w : World) : Calls Try.prog 34 #[.int .i64 1] w fun e w' => e = .returned (.int .i64 1) ∧ w' = w := first_any 1 (by omega) w
theorem first2 (w : World) : Calls Try.prog 34 #[.int .i64 2] w fun e w' => e = .returned (.int .i64 5) ∧ w' = w := first_any 2 (by omega) w
theorem first3 (w : World) : Calls Try.prog 34 #[.int .i64 3] w fun e w' => e = .returned (.int .i64 21) ∧ w' = w := first_any 3 (by omega) w

theorem mask_0 (w : World) :
    Calls Try.prog 28 #[.int .i64 0] w fun e w' => e = .returned (.int .u64 (msk 0)) ∧ w' = w := by
  rw [msk0_all]
  go_enter Try.func28, Try.ntmps28
  go_wp2_with (first | (go_at_call 33; refine (isNode_yes _ (by omega) (by omega) _).mono ?_; rintro e w' ⟨rfl, rfl⟩) | (go_at_call 10; refine (level_of (show lev 0 = 0 by decide) _).mono ?_; rintro e w' ⟨rfl, rfl⟩) | (go_at_call 34; refine (first0 _).mono ?_; rintro e w' ⟨rfl, rfl⟩))
  go_ret
  exact ⟨rfl, rfl⟩
theorem mask_1 (v : Int) (h0 : 1 ≤ v) (h1 : v < 5) (w : World) :
    Calls Try.prog 28 #[.int .i64 v] w fun e w' => e = .returned (.int .u64 (msk v)) ∧ w' = w := by
  go_enter Try.func28, Try.ntmps28
  go_wp2_with (first | (go_at_call 33; refine (isNode_yes _ (by omega) (by omega) _).mono ?_; rintro e w' ⟨rfl, rfl⟩) | (go_at_call 10; refine (level_of (lev1 h0 h1) _).mono ?_; rintro e w' ⟨rfl, rfl⟩) | (go_at_call 34; refine (first1 _).mono ?_; rintro e w' ⟨rfl, rfl⟩))
  go_ret
  exact ⟨ret_int (msk1_of h0 h1), rfl⟩
theorem mask_2 (v : Int) (h0 : 5 ≤ v) (h1 : v < 21) (w : World) :
    Calls Try.prog 28 #[.int .i64 v] w fun e w' => e = .returned (.int .u64 (msk v)) ∧ w' = w := by
  go_enter Try.func28, Try.ntmps28
  go_wp2_with (first | (go_at_call 33; refine (isNode_yes _ (by omega) (by omega) _).mono ?_; rintro e w' ⟨rfl, rfl⟩) | (go_at_call 10; refine (level_of (lev2 h0 h1) _).mono ?_; rintro e w' ⟨rfl, rfl⟩) | (go_at_call 34; refine (first2 _).mono ?_; rintro e w' ⟨rfl, rfl⟩))
  go_ret
  exact ⟨ret_int (msk2_of h0 h1), rfl⟩
theorem mask_3 (v : Int) (h0 : 21 ≤ v) (h1 : v < 85) (w : World) :
    Calls Try.prog 28 #[.int .i64 v] w fun e w' => e = .returned (.int .u64 (msk v)) ∧ w' = w := by
  go_enter Try.func28, Try.ntmps28
  go_wp2_with (first | (go_at_call 33; refine (isNode_yes _ (by omega) (by omega) _).mono ?_; rintro e w' ⟨rfl, rfl⟩) | (go_at_call 10; refine (level_of (lev_leaf h0 h1) _).mono ?_; rintro e w' ⟨rfl, rfl⟩) | (go_at_call 34; refine (first3 _).mono ?_; rintro e w' ⟨rfl, rfl⟩))
  go_ret
  exact ⟨ret_int (msk3_of h0 h1), rfl⟩
theorem mask_any (v : Int) (w : World) :
    Calls Try.prog 28 #[.int .i64 v] w fun e w' => e = .returned (.int .u64 (msk v)) ∧ w' = w := by
  by_cases h : 0 ≤ v ∧ v < 85
  · by_cases h1 : v < 1
    · obtain rfl : v = 0 := by omega
      exact mask_0 w
    · by_cases h2 : v < 5
      · exact mask_1 v (by omega) h2 w
      · by_cases h3 : v < 21
        · exact mask_2 v (by omega) h3 w
        · exact mask_3 v (by omega) h.2 w
  · have hp : Hid (msk v = 0) := msk_no (by omega)
    go_enter Try.func28, Try.ntmps28
    go_wp2_with (go_at_call 33; refine (isNode_no _ (by omega) _).mono ?_; rintro e w' ⟨rfl, rfl⟩)
    go_ret
    exact ⟨ret_int hp.out.symm, rfl⟩

theorem meet_any (v u : Int) (w : World) :
    Calls Try.prog 32 #[.int .i64 v, .int .i64 u] w fun e w' => e = .returned (.int .i64 (mee v u)) ∧ w' = w := by
  by_cases h : 0 ≤ v ∧ v < 85
  · obtain ⟨h0, h1⟩ := h
    by_cases h : 0 ≤ u ∧ u < 85
    · obtain ⟨h2, h3⟩ := h
      go_enter Try.func32, Try.ntmps32
      go_wp2_with (go_at_call 33; refine (isNode_yes _ (by omega) (by omega) _).mono ?_; rintro e w' ⟨rfl, rfl⟩)
      go_loop [0, 1] (fun a b => ∃ x y : Int, 0 ≤ x ∧ x < 85 ∧ 0 ≤ y ∧ y < 85 ∧ Hid (mee x y = mee v u) ∧ a = .int .i64 x ∧ b = .int .i64 y) (fun a b => (intOf a).toNat + (intOf b).toNat)
      case atStart => exact ⟨v, u, h0, h1, h2, h3, rfl, rfl, rfl⟩
      case round =>
        obtain ⟨x, y, hx0, hx1, hy0, hy1, hm, rfl, rfl⟩ := hrel
        by_cases hxy : x = y
        · subst hxy
          have hq : Hid (x = mee v u) := by show x = mee v u; rw [← hm.out, mee_self hx0 hx1]
          go_wp2
          go_ret
          exact ⟨ret_int hq.out, rfl⟩
        · have hne : (x != y) = true := by simpa using hxy
          by_cases hlt : x < y
          · have hp := par_bd (v := y) (by omega) hy1
            have hq : Hid (mee (par y) x = mee v u) := by show mee (par y) x = mee v u; rw [← mee_up hy0 hy1 hx0 hlt, mee_comm hy0 hy1 hx0 hx1, hm.out]
            go_wp2_with (go_at_call 12; refine (parent_any _ _).mono ?_; rintro e w' ⟨rfl, rfl⟩)
            go_round
            case rel => exact ⟨par y, x, by omega, by omega, by omega, by omega, hq, rfl, rfl⟩
            case measure => simp [intOf]; omega
          · have hp := par_bd (v := x) (by omega) hx1
            have hq : Hid (mee (par x) y = mee v u) := by show mee (par x) y = mee v u; rw [← mee_up hx0 hx1 hy0 (by omega), hm.out]
            go_wp2_with (go_at_call 12; refine (parent_any _ _).mono ?_; rintro e w' ⟨rfl, rfl⟩)
            go_round
            case rel => exact ⟨par x, y, by omega, by omega, by omega, by omega, hq, rfl, rfl⟩
            case measure => simp [intOf]; omega
    · have hp : Hid (mee v u = -1) := mee_no (by omega)
      have hN : Hid (∀ w, Calls Try.prog 33 #[.int .i64 u] w fun e w' => e = .returned (.bool false) ∧ w' = w) := isNode_no u (by omega)
      clear h
      go_enter Try.func32, Try.ntmps32
      go_wp2_with fail
      refine (isNode_yes _ h0 h1 _).mono ?_
      rintro e w' ⟨rfl, rfl⟩
      go_wp2_with fail
      refine (hN.out _).mono ?_
      rintro e w' ⟨rfl, rfl⟩
      go_wp2
      go_ret
      exact ⟨ret_int hp.out.symm, rfl⟩
  · have hp : Hid (mee v u = -1) := mee_no (by omega)
    go_enter Try.func32, Try.ntmps32
    go_wp2_with (go_at_call 33; refine (isNode_no _ (by omega) _).mono ?_; rintro e w' ⟨rfl, rfl⟩)
    go_ret
    exact ⟨ret_int hp.out.symm, rfl⟩

theorem mask_5 (w : World) : Calls Try.prog 28 #[.int .i64 5] w fun e w' => e = .returned (.int .u64 15) ∧ w' = w := by
  have h : msk 5 = 15 := by decide +kernel
  rw [← h]; exact mask_any 5 w
theorem meet_21 (w : World) : Calls Try.prog 32 #[.int .i64 21, .int .i64 25] w fun e w' => e = .returned (.int .i64 1) ∧ w' = w := by
  have h : mee 21 25 = 1 := by decide +kernel
  rw [← h]; exact meet_any 21 25 w
theorem path_37 (w : World) : Calls Try.prog 22 #[.int .i64 37] w fun e w' => e = .returned (.tuple #[.agg #[.int .i64 14, .int .i64 3, .int .i64 0], .bool true]) ∧ Below w.heap.size w w' :=
  path_yes 37 (by omega) (by omega) w

theorem lives_any (w : World) :
    Calls Try.prog 9 #[] w fun e w' => e = .returned (.bool true) ∧ Below w.heap.size w w' := by
  have he := fun w => eqArr3 14 3 0 14 3 0 w
  go_enter Try.func9, Try.ntmps9
  go_wp2_with fail
  refine (path_37 _).mono ?_
  rintro e w1 ⟨rfl, hb⟩
  go_wp2_with (first | (go_at_call 28; refine (mask_5 _).mono ?_; rintro e w' ⟨rfl, rfl⟩) | (go_at_call 32; refine (meet_21 _).mono ?_; rintro e w' ⟨rfl, rfl⟩))
  go_ret
  exact ⟨rfl, hb.alloc hb.size _⟩
end Go.Proofs.Ytchlbdnbiinlmaa
