/- Contracts of the document's answers: Parent, Which, Level, Slot. -/
import Derived.Test.YtdkfifnhmfbagaaShpC
namespace Go.Proofs.Ytdkfifnhmfbagaa.Sh
open Go.RowKit

theorem rChild_yes (v i : Int) (h0 : 0 ≤ v) (h1 : v < 21) (h2 : 0 ≤ i) (h3 : i < 4) (w : World) :
    Calls Try.prog 86 #[.int .i64 v, .int .i64 i] w fun e w' => e = .returned (.int .i64 (4 * v + 1 + i)) ∧ w' = w := by
  rw [← chd_yes h0 h1 h2 h3]; exact rChild_any v i w

theorem rParent_any (v : Int) (w : World) :
    Calls Try.prog 73 #[.int .i64 v] w fun e w' => e = .returned (.int .i64 (par v)) ∧ w' = w := by
  by_cases h0 : 1 ≤ v
  · by_cases h1 : v < 85
    · have hp : Hid (par v = (v - 1) / 4) := par_yes h0 h1
      go_enter Try.func73, Try.ntmps73
      go_wp2
      go_loop [3, 4] (fun p _ => ∃ k : Nat, k ≤ 20 ∧ 4 * (k : Int) + 1 ≤ v ∧ p = .int .i64 k) (fun p _ => 21 - (intOf p).toNat)
      case atStart => exact ⟨0, by omega, by omega, rfl⟩
      case round =>
        obtain ⟨k, hk, hf, rfl⟩ := hrel
        go_wp2
        go_loop [4] (fun i => ∃ j : Nat, j ≤ 4 ∧ 4 * (k : Int) + 1 + j ≤ v ∧ i = .int .i64 j) (fun i => 4 - (intOf i).toNat)
        case atStart => exact ⟨0, by omega, by omega, rfl⟩
        case round =>
          obtain ⟨j, hj, hg, rfl⟩ := hrel
          by_cases hlt : j < 4
          · by_cases heq : 4 * (k : Int) + 1 + j = v
            · have hb : (4 * (k : Int) + 1 + j == v) = true := by simpa using heq
              have hq : Hid ((k : Int) = par v) := by show (k : Int) = par v; rw [hp.out]; omega
              clear heq
              go_wp2_with (go_at_call 86; refine (rChild_yes _ _ (by omega) (by omega) (by omega) (by omega) _).mono ?_; rintro e w' ⟨rfl, rfl⟩)
              go_ret
              exact ⟨ret_int hq.out, rfl⟩
            · have hb : (4 * (k : Int) + 1 + j == v) = false := by simpa using heq
              go_wp2_with (go_at_call 86; refine (rChild_yes _ _ (by omega) (by omega) (by omega) (by omega) _).mono ?_; rintro e w' ⟨rfl, rfl⟩)
              go_round
              case rel => exact ⟨j + 1, by omega, by omega, by go_num⟩
              case measure => simp [intOf]; omega
          · go_wp2
            go_round
            case rel => exact ⟨k + 1, by omega, by omega, by go_num⟩
            case measure => simp [intOf]; omega
    · have hp : Hid (par v = -1) := par_no (by omega)
      go_enter Try.func73, Try.ntmps73
      go_wp2
      go_ret
      exact ⟨ret_int hp.out.symm, rfl⟩
  · have hp : Hid (par v = -1) := par_no (by omega)
    go_enter Try.func73, Try.ntmps73
    go_wp2
    go_ret
    exact ⟨ret_int hp.out.symm, rfl⟩

end Go.Proofs.Ytdkfifnhmfbagaa.Sh
