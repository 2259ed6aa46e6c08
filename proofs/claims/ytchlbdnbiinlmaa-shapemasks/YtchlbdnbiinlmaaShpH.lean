/- Contracts: the document's Below, Mask, Has and Above; the program's Above. -/
import Derived.Test.YtchlbdnbiinlmaaShpD
import Derived.Test.YtchlbdnbiinlmaaShpG
import Derived.Test.YtchlbdnbiinlmaaShpMath3
namespace Go.Proofs.Ytchlbdnbiinlmaa
open Go.RowKit

theorem rBelow_any (v u : Int) (w : World) :
    Calls Try.prog 38 #[.int .i64 v, .int .i64 u] w fun e w' => e = .returned (.bool (belB v u)) ∧ w' = w := by
  by_cases h : 0 ≤ v ∧ v < 85
  · obtain ⟨h0, h1⟩ := h
    by_cases h : 0 ≤ u ∧ u < 85
    · obtain ⟨h2, h3⟩ := h
      go_enter Try.func38, Try.ntmps38
      go_wp2_with (go_at_call 35; refine (rNode_yes _ (by omega) (by omega) _).mono ?_; rintro e w' ⟨rfl, rfl⟩)
      go_loop [1] (fun b => ∃ x : Int, 0 ≤ x ∧ x < 85 ∧ Hid (belB v x = belB v u) ∧ b = .int .i64 x) (fun b => (intOf b).toNat)
      case atStart => exact ⟨u, h2, h3, rfl, rfl⟩
      case round =>
        obtain ⟨x, hx0, hx1, hm, rfl⟩ := hrel
        by_cases hlt : v < x
        · have hp := par_bd (v := x) (by omega) hx1
          have hq : Hid (belB v (par x) = belB v u) := by show belB v (par x) = belB v u; rw [← belB_up h0 hlt hx1, hm.out]
          go_wp2_with (go_at_call 13; refine (rParent_any _ _).mono ?_; rintro e w' ⟨rfl, rfl⟩)
          go_round
          case rel => exact ⟨par x, by omega, by omega, hq, rfl⟩
          case measure => simp [intOf]; omega
        · have hq : Hid ((x == v) = belB v u) := by show (x == v) = belB v u; rw [← hm.out, belB_at hx0 (by omega) h1]
          go_wp2
          go_ret
          exact ⟨ret_bool hq.out, rfl⟩
    · have hp : Hid (belB v u = false) := belB_no' (nodeB_no (by omega))
      have hN : Hid (∀ w, Calls Try.prog 35 #[.int .i64 u] w fun e w' => e = .returned (.bool false) ∧ w' = w) := rNode_no u (by omega)
      clear h
      go_enter Try.func38, Try.ntmps38
      go_wp2_with fail
      refine (rNode_yes _ h0 h1 _).mono ?_
      rintro e w' ⟨rfl, rfl⟩
      go_wp2_with fail
      refine (hN.out _).mono ?_
      rintro e w' ⟨rfl, rfl⟩
      go_wp2
      go_ret
      exact ⟨ret_bool hp.out.symm, rfl⟩
  · have hp : Hid (belB v u = false) := belB_no (nodeB_no (by omega))
    go_enter Try.func38, Try.ntmps38
    go_wp2_with (go_at_call 35; refine (rNode_no _ (by omega) _).mono ?_; rintro e w' ⟨rfl, rfl⟩)
    go_ret
    exact ⟨ret_bool hp.out.symm, rfl⟩

theorem rLeaf_in (v : Int) (h0 : 0 ≤ v) (h1 : v < 64) (w : World) :
    Calls Try.prog 21 #[.int .i64 v] w fun e w' => e = .returned (.int .i64 (21 + v)) ∧ w' = w := by
  rw [← lef_yes h0 h1]; exact rLeaf_any v w
theorem rBelow_is {v u : Int} {b : Bool} (h : belB v u = b) (w : World) :
    Calls Try.prog 38 #[.int .i64 v, .int .i64 u] w fun e w' => e = .returned (.bool b) ∧ w' = w := by
  rw [← h]; exact rBelow_any v u w

theorem rMask_any (v : Int) (w : World) :
    Calls Try.prog 29 #[.int .i64 v] w fun e w' => e = .returned (.int .u64 (msk v)) ∧ w' = w := by
  go_enter Try.func29, Try.ntmps29
  go_wp2
  go_loop [3, 4, 5] (fun m u s => ∃ k : Nat, k ≤ 64 ∧ m = .int .u64 (mskTo v k) ∧ u = .int .u64 (unitOf k) ∧ s = .int .i64 k) (fun _ _ s => 64 - (intOf s).toNat)
  case atStart => exact ⟨0, by omega, rfl, rfl, rfl⟩
  case round =>
    obtain ⟨k, hk, rfl, rfl, rfl⟩ := hrel
    by_cases hlt : k < 64
    · have hb := mskTo_bd v k
      have hp := pow_le k hlt
      have hu := unit_lt k hlt
      have hb' : 0 ≤ mskTo v k ∧ mskTo v k < unitOf k ∧ unitOf k ≤ 9223372036854775808 := by rw [hu]; omega
      have HS : Hid (IntKind.u64.wrap (unitOf k * 2) = unitOf (k + 1)) := unit_step k hlt
      have HU : Hid (unitOf k = 2 ^ k) := hu
      clear hb hp hu
      cases hB : belB v (21 + k)
      · have HB : Hid (belB v (21 + k) = false) := hB
        clear hB
        go_wp2_with (first | (go_at_call 21; refine (rLeaf_in _ (by omega) (by omega) _).mono ?_; rintro e w' ⟨rfl, rfl⟩) | (go_at_call 38; refine (rBelow_is HB.out _).mono ?_; rintro e w' ⟨rfl, rfl⟩))
        go_round
        case rel => exact ⟨k + 1, by omega, by simp [mskTo, HB.out], by rw [← HS.out], by go_num⟩
        case measure => simp [intOf]; omega
      · have HB : Hid (belB v (21 + k) = true) := hB
        clear hB
        go_wp2_with (first | (go_at_call 21; refine (rLeaf_in _ (by omega) (by omega) _).mono ?_; rintro e w' ⟨rfl, rfl⟩) | (go_at_call 38; refine (rBelow_is HB.out _).mono ?_; rintro e w' ⟨rfl, rfl⟩))
        go_round
        case rel => exact ⟨k + 1, by omega, by simp [mskTo, HB.out, HU.out], by rw [← HS.out], by go_num⟩
        case measure => simp [intOf]; omega
    · obtain rfl : k = 64 := by omega
      go_wp2
      go_ret
      exact ⟨rfl, rfl⟩
end Go.Proofs.Ytchlbdnbiinlmaa
