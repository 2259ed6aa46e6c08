/- Whole trees built. -/
import Derived.Test.YtedbnamekfgmhabDoorTrS
namespace Go.Proofs.YtedbnamekfgmhabDoor
open Go.RowKit Go.Great
open Rt (Ky zK kcs)
open Rs (En zE rcs)
set_option linter.unusedVariables false
set_option linter.unusedSimpArgs false

theorem built_zero : Tryd.prog.built 31 [] = some (tcs (tz 0)) := by kernel_rfl
set_option maxRecDepth 100000 in
theorem built_tr (e f : Int) (k : Nat → Ky) (r : Nat → En) : Tryd.prog.built 31 [(0, .int .i64 e), (1, .int .i64 f), (2, .agg (kcs k)), (3, .agg (rcs r))] = some (tcs ⟨e, f, k, r⟩) := by kernel_rfl
theorem builtz (a : Act) : Tryd.prog.built 31 ((#[] : Array (Nat × Operand)).map fun (i, x) => (i, a.eval x)).toList = some (tcs (tz 0)) :=
  (congrArg (Tryd.prog.built 31) (by simp)).trans built_zero
end Go.Proofs.YtedbnamekfgmhabDoor
