/- Contracts: the document's Below, Mask, Has and Above; the program's Above. -/
import Derived.Test.YtdkfifnhmfbagaaShpD
import Derived.Test.YtdkfifnhmfbagaaShpG
import Derived.Test.YtdkfifnhmfbagaaShpMath3
namespace Go.Proofs.Ytdkfifnhmfbagaa.Sh
open Go.RowKit

theorem rBelow_any (v u : Int) (w : World) :
    Calls Try.prog 45 #[.int .i64 v, .int .i64 u] w fun e w' => e = .returned (.bool (belB v u)) ∧ w' = w := by
  by_cases h : 0 ≤ v ∧ v < 85
  · obtain ⟨h0, h1⟩ := h
    by_cases h : 0 ≤ u ∧ u < 85
    · obtain ⟨h2, h3⟩ := h
      go_enter Try.func45, Try.ntmps45
      go_wp2_with (go_at_call 72; refine (rNode_yes _ (by omega) (by omega) _).mono ?_; rintro e w' ⟨rfl, rfl⟩)
      go_loop [1] (fun b => ∃ x : Int, 0 ≤ x ∧ x < 85 ∧ Hid (belB v x = belB v u) ∧ b = .int .i64 x) (fun b => (intOf b).toNat)
      case atStart => exact ⟨u, h2, h3, rfl, rfl⟩
      case round =>
        obtain ⟨x, hx0, hx1, hm, rfl⟩ := hrel
        by_cases hlt : v < x
        · have hp := par_bd (v := x) (by omega) hx1
          have hq : Hid (belB v (par x) = belB v u) := by show belB v (par x) = belB v u; rw [← belB_up h0 hlt hx1, hm.out]
          go_wp2_with (go_at_call 73; refine (rParent_any _ _).mono ?_; rintro e w' ⟨rfl, rfl⟩)
          go_round
          case rel => exact ⟨par x, by omega, by omega, hq, rfl⟩
          case measure => simp [intOf]; omega
        · have hq : Hid ((x == v) = belB v u) := by show (x == v) = belB v u; rw [← hm.out, belB_at hx0 (by omega) h1]
          go_wp2
          go_ret
          exact ⟨ret_bool hq.out, rfl⟩
    · have hp : Hid (belB v u = false) := belB_no' (nodeB_no (by omega))
      have hN : Hid (∀ w, Calls Try.prog 72 #[.int .i64 u] w fun e w' => e = .returned (.bool false) ∧ w' = w) := rNode_no u (by omega)
      clear h
      go_enter Try.func45, Try.ntmps45
      go_wp2_with fail
      refine (rNode_yes _ h0 h1 _).mono ?_
      rintro e w' ⟨rfl, rfl⟩
      go_wp2_with fail
      refine (hN.out _).mono ?_
      rintro e w' ⟨rfl, rfl⟩
      go_wp2
      go_ret
      exact ⟨ret_bool hp.out.symm, rfl⟩
  · have hp : Hid (belB v u = false) := belB_no (nodeB_no (by omega))
    go_enter Try.func45, Try.ntmps45
    go_wp2_with (go_at_call 72; refine (rNode_no _ (by omega) _).mono ?_; rintro e w' ⟨rfl, rfl⟩)
    go_ret
    exact ⟨ret_bool hp.out.symm, rfl⟩

theorem rBelow_is {v u : Int} {b : Bool} (h : belB v u = b) (w : World) :
    Calls Try.prog 45 #[.int .i64 v, .int .i64 u] w fun e w' => e = .returned (.bool b) ∧ w' = w := by
  rw [← h]; exact rBelow_any v u w

end Go.Proofs.Ytdkfifnhmfbagaa.Sh
