/- Contracts: List. -/
import Derived.Test.YtieagbjempndnabDoorStD
namespace Go.Proofs.YtieagbjempndnabDoor
open Go.RowKit Go.Maps Go.Shelf
attribute [local go_sem] Oper.semAt_some
set_option linter.unusedVariables false
set_option linter.unusedSimpArgs false

theorem infoInt : (Tryd.prog.info? 3).map (fun i => (i.zero, i.size, i.bytes)) = some (some (.int .i64 0), 1, 8) := by kernel_rfl
/- Places as a slice's cells. -/
def nI (l : List Nat) : List Value := l.map fun k => .int .i64 ((k : Nat) : Int)
@[simp] theorem nI_length (l : List Nat) : (nI l).length = l.length := by simp [nI]
theorem nI_snoc (l : List Nat) (k : Nat) : nI (l ++ [k]) = nI l ++ [.int .i64 (k : Int)] := by simp [nI]
/- A slice of numbers that is new. -/
def NewL (w w' : World) (v : Value) (l : List Nat) : Prop := w'.ownsRow w.heap.size 3 1 v l.length (nI l)
end Go.Proofs.YtieagbjempndnabDoor
