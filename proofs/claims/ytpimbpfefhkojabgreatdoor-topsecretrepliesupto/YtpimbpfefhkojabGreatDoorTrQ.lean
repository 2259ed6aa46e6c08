/- What '==' says of equal cards and states. -/
import Derived.Test.YtpimbpfefhkojabGreatDoorTrJ2
namespace Go.Proofs.YtpimbpfefhkojabGreatDoor
open Go.RowKit
open Rt (Ky zK kcs KyAt pcs PaAt)
set_option linter.unusedVariables false
set_option linter.unusedSimpArgs false

/- Loads of whole cards and states. -/
theorem CdAt.run {w : World} {B : Nat} {W S P : Int} {k : Ky} (h : CdAt w B W S P k) : (Instr.loadAt 97 (.pointer (some ⟨B, 0, none⟩))).run Tryz.prog w = .ok (.agg (ccs W S P k)) w := by
  simp only [Instr.loadAt, Instr.sureAddr, Sem.run_bind, Sem.run_pure, Result.andThen]
  exact h.var
theorem MbAt.run {w : World} {B : Nat} {W S P : Int} {k p q r : Ky} {b : Bool} (h : MbAt w B W S P k p q r b) : (Instr.loadAt 74 (.pointer (some ⟨B, 0, none⟩))).run Tryz.prog w = .ok (.agg (mcs W S P k p q r b)) w := by
  simp only [Instr.loadAt, Instr.sureAddr, Sem.run_bind, Sem.run_pure, Result.andThen]
  exact h.var
theorem MbAt.new (w : World) (W S P : Int) (k p q r : Ky) (b : Bool) : MbAt (w.alloc (.cells (mcs W S P k p q r b) 74)) w.heap.size W S P k p q r b := heap_alloc_last w _
theorem CdAt.new (w : World) (W S P : Int) (k : Ky) : CdAt (w.alloc (.cells (ccs W S P k) 97)) w.heap.size W S P k := heap_alloc_last w _
theorem CdAt.later {w w' : World} {B : Nat} {W S P : Int} {k : Ky} (h : CdAt w B W S P k) (hb : Below w.heap.size w w') : CdAt w' B W S P k := row_later h hb
theorem MbAt.later {w w' : World} {B : Nat} {W S P : Int} {k p q r : Ky} {b : Bool} (h : MbAt w B W S P k p q r b) (hb : Below w.heap.size w w') : MbAt w' B W S P k p q r b := row_later h hb
end Go.Proofs.YtpimbpfefhkojabGreatDoor
