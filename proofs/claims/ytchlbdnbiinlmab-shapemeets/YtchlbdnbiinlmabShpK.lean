/- Contracts: the program's Below and the document's Meet. -/
import Derived.Test.YtchlbdnbiinlmabShpH
namespace Go.Proofs.Ytchlbdnbiinlmab
open Go.RowKit

theorem mee_is_all : ∀ v u : Fin 85, (mee v.val u.val == v.val) = belB v.val u.val ∧ (belB v.val u.val = false → 1 ≤ v.val ∧ mee (par v.val) u.val = mee v.val u.val) ∧ (belB v.val u.val = true → mee v.val u.val = v.val) := by decide +kernel
theorem mee_is {v u : Int} (h0 : 0 ≤ v) (h1 : v < 85) (h2 : 0 ≤ u) (h3 : u < 85) : (mee v u == v) = belB v u ∧ (belB v u = false → 1 ≤ v ∧ mee (par v) u = mee v u) ∧ (belB v u = true → mee v u = v) := by
  have h := mee_is_all ⟨v.toNat, by omega⟩ ⟨u.toNat, by omega⟩
  simp only [Int.toNat_of_nonneg h0, Int.toNat_of_nonneg h2] at h
  exact ⟨h.1, fun e => ⟨by have := (h.2.1 e).1; omega, (h.2.1 e).2⟩, h.2.2⟩

theorem below_any (v u : Int) (w : World) :
    Calls Try.prog 5 #[.int .i64 v, .int .i64 u] w fun e w' => e = .returned (.bool (belB v u)) ∧ w' = w := by
  by_cases h : 0 ≤ v ∧ v < 85
  · obtain ⟨h0, h1⟩ := h
    have hq : Hid ((mee v u == v) = belB v u) := by
      show (mee v u == v) = belB v u
      by_cases h : 0 ≤ u ∧ u < 85
      · exact (mee_is h0 h1 h.1 h.2).1
      · rw [mee_no (by omega), belB_no' (nodeB_no (by omega))]; simp; omega
    go_enter Try.func5, Try.ntmps5
    go_wp2_with (first | (go_at_call 12; refine (isNode_yes _ h0 h1 _).mono ?_; rintro e w' ⟨rfl, rfl⟩) | (go_at_call 7; refine (meet_any _ _ _).mono ?_; rintro e w' ⟨rfl, rfl⟩))
    go_ret
    exact ⟨ret_bool hq.out, rfl⟩
  · have hp : Hid (belB v u = false) := belB_no (nodeB_no (by omega))
    go_enter Try.func5, Try.ntmps5
    go_wp2_with (go_at_call 12; refine (isNode_no _ (by omega) _).mono ?_; rintro e w' ⟨rfl, rfl⟩)
    go_ret
    exact ⟨ret_bool hp.out.symm, rfl⟩

theorem rMeet_any (v u : Int) (w : World) :
    Calls Try.prog 8 #[.int .i64 v, .int .i64 u] w fun e w' => e = .returned (.int .i64 (mee v u)) ∧ w' = w := by
  by_cases h : 0 ≤ v ∧ v < 85
  · obtain ⟨h0, h1⟩ := h
    by_cases h : 0 ≤ u ∧ u < 85
    · obtain ⟨h2, h3⟩ := h
      go_enter Try.func8, Try.ntmps8
      go_wp2_with (go_at_call 13; refine (rNode_yes _ (by omega) (by omega) _).mono ?_; rintro e w' ⟨rfl, rfl⟩)
      go_loop [0] (fun a => ∃ x : Int, 0 ≤ x ∧ x < 85 ∧ Hid (mee x u = mee v u) ∧ a = .int .i64 x) (fun a => (intOf a).toNat)
      case atStart => exact ⟨v, h0, h1, rfl, rfl⟩
      case round =>
        obtain ⟨x, hx0, hx1, hm, rfl⟩ := hrel
        have hi := mee_is hx0 hx1 h2 h3
        cases hB : belB x u
        · have hp := par_bd (v := x) (hi.2.1 hB).1 hx1
          have hq : Hid (mee (par x) u = mee v u) := ((hi.2.1 hB).2).trans hm.out
          have HB : Hid (belB x u = false) := hB
          clear hB hi
          go_wp2_with (first | (go_at_call 6; refine (rBelow_is HB.out _).mono ?_; rintro e w' ⟨rfl, rfl⟩) | (go_at_call 14; refine (rParent_any _ _).mono ?_; rintro e w' ⟨rfl, rfl⟩))
          go_round
          case rel => exact ⟨par x, by omega, by omega, hq, rfl⟩
          case measure => simp [intOf]; omega
        · have hq : Hid (x = mee v u) := ((hi.2.2 hB).symm).trans hm.out
          have HB : Hid (belB x u = true) := hB
          clear hB hi
          go_wp2_with (go_at_call 6; refine (rBelow_is HB.out _).mono ?_; rintro e w' ⟨rfl, rfl⟩)
          go_ret
          exact ⟨ret_int hq.out, rfl⟩
    · have hp : Hid (mee v u = -1) := mee_no (by omega)
      have hN : Hid (∀ w, Calls Try.prog 13 #[.int .i64 u] w fun e w' => e = .returned (.bool false) ∧ w' = w) := rNode_no u (by omega)
      clear h
      go_enter Try.func8, Try.ntmps8
      go_wp2_with fail
      refine (rNode_yes _ h0 h1 _).mono ?_
      rintro e w' ⟨rfl, rfl⟩
      go_wp2_with fail
      refine (hN.out _).mono ?_
      rintro e w' ⟨rfl, rfl⟩
      go_wp2
      go_ret
      exact ⟨ret_int hp.out.symm, rfl⟩
  · have hp : Hid (mee v u = -1) := mee_no (by omega)
    go_enter Try.func8, Try.ntmps8
    go_wp2_with (go_at_call 13; refine (rNode_no _ (by omega) _).mono ?_; rintro e w' ⟨rfl, rfl⟩)
    go_ret
    exact ⟨ret_int hp.out.symm, rfl⟩
end Go.Proofs.Ytchlbdnbiinlmab
