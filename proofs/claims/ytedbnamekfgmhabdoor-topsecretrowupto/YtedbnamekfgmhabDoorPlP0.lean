/- Lists of pairs that came in as arguments (they may lie anywhere in a block). -/
import Derived.Test.YtedbnamekfgmhabDoorPlJ3
namespace Go.Proofs.YtedbnamekfgmhabDoor
open Go.RowKit Go.Maps
open Rs (RdS RdI ps evl cell_later)
set_option linter.unusedVariables false
set_option linter.unusedSimpArgs false

def RdP (w : World) (a : Option Addr) (l : List (Int × Int)) : Prop := ∀ i, i < l.length → ∃ b o, a = some ⟨b, o, none⟩ ∧ w.cell? ⟨b, o + i * 2, none⟩ = some (.int .i64 (l.getD i (0, 0)).1) ∧ w.cell? ⟨b, o + i * 2 + 1, none⟩ = some (.int .i64 (l.getD i (0, 0)).2)
theorem RdP.later {w w' : World} {a : Option Addr} {l : List (Int × Int)} (h : RdP w a l) (hb : Below w.heap.size w w') : RdP w' a l := fun i hi => by
  obtain ⟨b, o, e, c0, c1⟩ := h i hi
  exact ⟨b, o, e, cell_later hb c0, cell_later hb c1⟩
theorem ps_one (l : List (Int × Int)) : ∀ u ∈ ps l, u.oneCell' = true := by
  intro u hu
  unfold Rs.ps at hu
  rw [List.mem_flatMap] at hu
  obtain ⟨p, _, h⟩ := hu
  simp at h
  rcases h with rfl | rfl <;> rfl
end Go.Proofs.YtedbnamekfgmhabDoor
