/- The fixed answers. -/
import Derived.Test.YtoohoapbcdekgaaFrH
namespace Go.Proofs.Ytoohoapbcdekgaa
open Go.RowKit Go.Maps
set_option linter.unusedVariables false
set_option linter.unusedSimpArgs false

theorem live0 : blks 1 ⟨#[97, 98]⟩ = [bl 1 0 1 ⟨#[97, 98]⟩] := by
  have e1 : np (⟨#[97, 98]⟩ : ByteArray).size = 1 := by decide
  have e2 : dt ⟨#[97, 98]⟩ 0 = ⟨#[97, 98]⟩ := by apply ByteArray.ext; decide
  simp [blks, pcs, e1, e2, bkP, List.range_succ]
theorem live1 : (bl 1 0 1 ⟨#[97, 98]⟩).extract 0 7 = ⟨#[0, 1, 0, 1, 2, 97, 98]⟩ := by apply ByteArray.ext; decide +kernel
theorem live2 : pt 24 = 2 := by decide
theorem row1 {w : World} {B : Nat} {v : Value} {X : ByteArray} (h : RwS w B v [X]) : ∃ g cap, v = .slice (some ⟨g, 0, none⟩) 1 cap ∧ w.cell? ⟨g, 0, none⟩ = some (.string X) := by
  rcases h.2 with ⟨h0, hn⟩ | ⟨g, cap, cur, hv, _⟩
  · cases hn
  · subst hv
    refine ⟨g, cap, rfl, ?_⟩
    rw [World.ownsRow.cellAt h 0 (by simp)]; rfl
set_option maxHeartbeats 1000000 in
set_option maxRecDepth 100000 in
theorem lives_any (w : World) : Calls Try.prog 9 #[] w fun e w' => e = .returned (.bool true) ∧ Below w.heap.size w w' := by
  have hp := pack_yes 1 ⟨#[97, 98]⟩ w (by decide) (by decide)
  rw [live0] at hp
  have hx := live1
  have hs : (bl 1 0 1 ⟨#[97, 98]⟩).size = 32 := bl_size _ _ _ _ (by decide)
  obtain ⟨X, hX⟩ : ∃ X, bl 1 0 1 ⟨#[97, 98]⟩ = X := ⟨_, rfl⟩
  rw [hX] at hp hx hs
  clear hX
  have hq := fun W => parts_any 24 (by omega) (by omega) W
  rw [live2] at hq
  go_enter Try.func9, Try.ntmps9
  go_wp2_with fail
  refine hp.mono ?_
  rintro e w1 ⟨v, rfl, hrow, hb⟩
  obtain ⟨g, cap, rfl, c0⟩ := row1 hrow
  have HB : Hid (Below w.heap.size w w1) := hb
  clear hp hrow hb
  go_wp2_with fail
  refine (hq _).mono ?_
  rintro e w2 ⟨rfl, rfl⟩
  go_wp2_with fail
  go_ret
  exact ⟨rfl, HB.out⟩
end Go.Proofs.Ytoohoapbcdekgaa
