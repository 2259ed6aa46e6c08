/- Contract: the fixed answers (lives); the library's table as the rows list it; a world that holds all that is listed. -/
import Derived.Test.YtpimbpfefhkojabGreatDoorRows
import Derived.Test.YtpimbpfefhkojabGreatDoorOpenRs
import Derived.Lib.LaidTab
import Derived.Stop.LaidErr
import Derived.Shelf.Vars
import Derived.OpenShut
namespace Go.Proofs.YtpimbpfefhkojabGreatDoor.Rs
open Go.ChangeShapes Go.WideShapes Go.ChangeAt Go.RowKit
set_option linter.unusedVariables false
set_option linter.unusedSimpArgs false

theorem gTab : Tryz.prog.globalNamed "math/bits.deBruijn64tab" = some 0 := by kernel_rfl
theorem gTabType : (Tryz.prog.globals[0]?).map (·.type) = some 161 := by kernel_rfl
theorem cellsTab : Tryz.prog.cellsOf 161 = 64 := by kernel_rfl
theorem cellsU8 : Tryz.prog.cellsOf 5 = 1 := by kernel_rfl
def tabI : List Int := Lib.deBruijn64tab.map fun n : Nat => (n : Int)
theorem tab_data : (Rows.laid_math_bits_deBruijn64tab : DataW Unit) = Lib.tabData .u8 tabI := rfl
theorem tb_of {W : World} {rest : List (String × DataW Unit)} (h : laidMet Tryz.prog (("math/bits.deBruijn64tab", Rows.laid_math_bits_deBruijn64tab) :: rest) W) : Tb W := by
  rw [tab_data] at h
  have tab : Lib.TabIs Tryz.prog W "math/bits.deBruijn64tab" .u8 tabI :=
    Lib.tabIs_of_head gTab gTabType Tryz.underlying161 Tryz.underlying5 cellsU8 cellsTab h
  have hc : TabAt G64 Lib.deBruijn64tab W := fun j hj => by
    have h0 := World.var?_cell gTab tab j
    rw [show (⟨G64, j, none⟩ : Addr) = ⟨0, j, none⟩ from rfl, h0]
    simp only [tabI, List.map_map, List.getElem?_toArray, List.getElem?_map]
    rw [List.getElem?_eq_getElem hj, List.getD_eq_getElem?_getD, List.getElem?_eq_getElem hj]
    rfl
  exact ⟨World.block_lt_of_cell? W ⟨G64, 0, none⟩ (hc 0 (by decide)), hc⟩
def numbers (d : DataW Unit) : Array Value := match d with
  | .agg l => (l.map fun | .lit (.int k n) => Value.int k n | _ => .bool false).toArray
  | _ => #[]
noncomputable def laidWorld (os : Os) : World :=
  let w0 := World.holding Tryz.prog os ⟨#[], #[], []⟩
  { w0 with heap := w0.heap.modify 0 fun
      | .cells _ t frozen => .cells (numbers Rows.laid_math_bits_deBruijn64tab) t frozen
      | o => o }
/- The roster of the examples. -/
def f0 : Nat → En := upd (upd (fun _ => zE) 0 ⟨1, 22, 1⟩) 2 ⟨3, 24, 1⟩
end Go.Proofs.YtpimbpfefhkojabGreatDoor.Rs
