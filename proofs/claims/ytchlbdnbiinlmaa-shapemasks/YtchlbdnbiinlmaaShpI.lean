/- Contracts: the document's Has and Above; the program's Above. -/
import Derived.Test.YtchlbdnbiinlmaaShpH
namespace Go.Proofs.Ytchlbdnbiinlmaa
open Go.RowKit

theorem rHas_any (X : Int) (s : Nat) (h0 : 0 ≤ X) (h1 : X < 18446744073709551616) (hs : s < 64) (w : World) :
    Calls Try.prog 39 #[.int .u64 X, .int .i64 s] w fun e w' => e = .returned (.bool (hasB X s)) ∧ w' = w := by
  go_enter Try.func39, Try.ntmps39
  go_wp2
  go_loop [0, 5] (fun m i => ∃ (k : Nat) (Y : Int), k ≤ s ∧ 0 ≤ Y ∧ Y < 18446744073709551616 ∧ Hid (Y = X / 2 ^ k) ∧ m = .int .u64 Y ∧ i = .int .i64 k) (fun _ i => s - (intOf i).toNat)
  case atStart => exact ⟨0, X, by omega, h0, h1, by show X = X / 2 ^ 0; simp, rfl, rfl⟩
  case round =>
    obtain ⟨k, Y, hk, hy0, hy1, hY, rfl, rfl⟩ := hrel
    by_cases hlt : k < s
    · have HY : Hid (Y / 2 = X / 2 ^ (k + 1)) := by
        show Y / 2 = X / 2 ^ (k + 1)
        rw [hY.out, Int.pow_succ, Int.ediv_ediv_of_nonneg (Int.le_of_lt (pow_pos' k))]
      go_wp2
      go_round
      case rel => exact ⟨k + 1, Y / 2, by omega, by omega, by omega, HY, rfl, by go_num⟩
      case measure => simp [intOf]; omega
    · obtain rfl : k = s := by omega
      have HY : Hid ((Y % 2 == 1) = hasB X k) := by show (Y % 2 == 1) = hasB X k; rw [hY.out, hasB]
      go_wp2
      go_ret
      exact ⟨ret_bool HY.out, rfl⟩
theorem rHas_is {X : Int} {s : Nat} {b : Bool} (h0 : 0 ≤ X) (h1 : X < 18446744073709551616) (hs : s < 64) (h : hasB X s = b) (w : World) :
    Calls Try.prog 39 #[.int .u64 X, .int .i64 s] w fun e w' => e = .returned (.bool b) ∧ w' = w := by
  rw [← h]; exact rHas_any X s h0 h1 hs w

set_option maxHeartbeats 400000 in
theorem rAbove_any (X : Int) (h0 : 0 ≤ X) (h1 : X < 18446744073709551616) (w : World) :
    Calls Try.prog 31 #[.int .u64 X] w fun e w' => e = .returned (.int .u32 (abvTo X 21)) ∧ w' = w := by
  go_enter Try.func31, Try.ntmps31
  go_wp2
  go_loop [3, 4, 5, 6, 7] (fun m u v _ _ => ∃ (k : Nat) (U : Int), k ≤ 21 ∧ 0 < U ∧ U ≤ 2097152 ∧ Hid (U = 2 ^ k) ∧ m = .int .u32 (abvTo X k) ∧ u = .int .u32 U ∧ v = .int .i64 k) (fun _ _ v _ _ => 21 - (intOf v).toNat)
  case atStart => exact ⟨0, 1, by omega, by omega, by omega, rfl, rfl, rfl, rfl⟩
  case round =>
    obtain ⟨k, U, hk, hu0, hu1, hU, rfl, rfl, rfl⟩ := hrel
    by_cases hlt : k < 21
    · have hb := abvTo_bd X k
      rw [← hU.out] at hb
      have HU : Hid (U * 2 = 2 ^ (k + 1)) := by show U * 2 = 2 ^ (k + 1); rw [hU.out, Int.pow_succ]
      have hu2 : U ≤ 1048576 := by rw [hU.out]; exact pow_le21 k hlt
      go_wp2
      go_loop [6, 7] (fun t s => ∃ j : Nat, j ≤ 64 ∧ t = .bool (hitTo X k j) ∧ s = .int .i64 j) (fun _ s => 64 - (intOf s).toNat)
      case atStart => exact ⟨0, by omega, rfl, rfl⟩
      case round =>
        obtain ⟨j, hj, rfl, rfl⟩ := hrel
        by_cases hjl : j < 64
        · have hst : Hid (hitTo X k (j + 1) = (hitTo X k j || (hasB X j && belB k (21 + j)))) := rfl
          cases hh : hitTo X k j
          · cases h2 : hasB X j
            · have H2 : Hid (hasB X j = false) := h2
              have HR : Hid (hitTo X k (j + 1) = false) := by show hitTo X k (j + 1) = false; rw [hst.out, hh, h2]; rfl
              clear h2 hh
              go_wp2_with (first | (go_at_call 39; refine (rHas_is h0 h1 hjl H2.out _).mono ?_; rintro e w' ⟨rfl, rfl⟩) | (go_at_call 21; refine (rLeaf_in _ (by omega) (by omega) _).mono ?_; rintro e w' ⟨rfl, rfl⟩) | (go_at_call 38; refine (rBelow_is H3.out _).mono ?_; rintro e w' ⟨rfl, rfl⟩))
              go_round
              case rel => exact ⟨j + 1, by omega, by rw [HR.out], by go_num⟩
              case measure => simp [intOf]; omega
            · cases h3 : belB k (21 + j)
              all_goals
                have H2 : Hid (hasB X j = true) := h2
                have H3 : Hid (belB k (21 + j) = _) := h3
                have HR := hst.out
                rw [hh, h2, h3] at HR
                have HR : Hid (hitTo X k (j + 1) = _) := HR
                clear h2 hh h3
                go_wp2_with (first | (go_at_call 39; refine (rHas_is h0 h1 hjl H2.out _).mono ?_; rintro e w' ⟨rfl, rfl⟩) | (go_at_call 21; refine (rLeaf_in _ (by omega) (by omega) _).mono ?_; rintro e w' ⟨rfl, rfl⟩) | (go_at_call 38; refine (rBelow_is H3.out _).mono ?_; rintro e w' ⟨rfl, rfl⟩))
                go_round
                case rel => exact ⟨j + 1, by omega, by rw [HR.out]; rfl, by go_num⟩
                case measure => simp [intOf]; omega
          · have HR : Hid (hitTo X k (j + 1) = true) := by show hitTo X k (j + 1) = true; rw [hst.out, hh]; rfl
            clear hh
            go_wp2
            go_round
            case rel => exact ⟨j + 1, by omega, by rw [HR.out], by go_num⟩
            case measure => simp [intOf]; omega
        · obtain rfl : j = 64 := by omega
          cases hh : hitTo X k 64
          · have HR : Hid (abvTo X (k + 1) = abvTo X k) := by show abvTo X (k + 1) = abvTo X k; simp [abvTo, hh]
            clear hh
            go_wp2
            go_round
            case rel => exact ⟨k + 1, U * 2, by omega, by omega, by omega, HU, by rw [HR.out], rfl, by go_num⟩
            case measure => simp [intOf]; omega
          · have HR : Hid (abvTo X (k + 1) = abvTo X k + U) := by show abvTo X (k + 1) = abvTo X k + U; simp [abvTo, hh, hU.out]
            clear hh
            go_wp2
            go_round
            case rel => exact ⟨k + 1, U * 2, by omega, by omega, by omega, HU, by rw [HR.out], rfl, by go_num⟩
            case measure => simp [intOf]; omega
    · obtain rfl : k = 21 := by omega
      go_wp2
      go_ret
      exact ⟨rfl, rfl⟩
end Go.Proofs.Ytchlbdnbiinlmaa
