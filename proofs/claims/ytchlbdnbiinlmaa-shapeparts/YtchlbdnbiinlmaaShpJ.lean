/- Contract: the program's Above. -/
import Derived.Test.YtchlbdnbiinlmaaShpG
import Derived.Test.YtchlbdnbiinlmaaShpMath3
namespace Go.Proofs.Ytchlbdnbiinlmaa
open Go.RowKit

set_option maxHeartbeats 400000 in
theorem above_any (X : Int) (h0 : 0 ≤ X) (h1 : X < 18446744073709551616) (w : World) :
    Calls Try.prog 30 #[.int .u64 X] w fun e w' => e = .returned (.int .u32 (abvTo X 21)) ∧ w' = w := by
  go_enter Try.func30, Try.ntmps30
  go_wp2
  go_loop [3, 4, 5] (fun m _ v => ∃ k : Nat, k ≤ 21 ∧ m = .int .u32 (abvTo X k) ∧ v = .int .i64 k) (fun _ _ v => 21 - (intOf v).toNat)
  case atStart => exact ⟨0, by omega, rfl, rfl⟩
  case round =>
    obtain ⟨k, hk, rfl, rfl⟩ := hrel
    by_cases hlt : k < 21
    · have hit : (bits .and .u64 (msk k) X != 0) = hitTo X k 64 := hit_and k X h0 h1
      cases hh : hitTo X k 64
      · rw [hh] at hit
        have HR : Hid (abvTo X (k + 1) = abvTo X k) := by show abvTo X (k + 1) = abvTo X k; simp [abvTo, hh]
        clear hh
        go_wp2_with (go_at_call 28; refine (mask_any _ _).mono ?_; rintro e w' ⟨rfl, rfl⟩)
        go_round
        case rel => exact ⟨k + 1, by omega, by rw [HR.out], by go_num⟩
        case measure => simp [intOf]; omega
      · rw [hh] at hit
        have HR : Hid (abvTo X (k + 1) = abvTo X k + 2 ^ k) := by show abvTo X (k + 1) = abvTo X k + 2 ^ k; simp [abvTo, hh]
        clear hh
        go_wp2_with (go_at_call 28; refine (mask_any _ _).mono ?_; rintro e w' ⟨rfl, rfl⟩)
        go_round
        case rel => exact ⟨k + 1, by omega, by rw [HR.out, or_unit _ k hlt (abvTo_bd X k).1 (abvTo_bd X k).2], by go_num⟩
        case measure => simp [intOf]; omega
    · obtain rfl : k = 21 := by omega
      go_wp2
      go_ret
      exact ⟨rfl, rfl⟩
end Go.Proofs.Ytchlbdnbiinlmaa
