/- The great zero values, as constants (where the load does not make them). -/
import Derived.Test.YtieagbjempndnabDoorProg
import Derived.Tactics
import Derived.ProofKit
namespace Go.Proofs.YtieagbjempndnabDoor
open Go
def zeroCells25 : Array Value := (List.replicate 192 (Value.int .i64 0)).toArray
theorem zeroCells25_size : zeroCells25.size = 192 := by kernel_rfl
@[simp] theorem zeroCells25_ne : zeroCells25 ≠ #[] := fun e => by have h := zeroCells25_size; rw [e] at h; cases h
@[simp] theorem zeroValue25 (w : World) : (zeroValue 25).run Tryd.prog w = .ok (.agg zeroCells25) w := by kernel_rfl
def zeroCells54 : Array Value := (List.replicate 256 (Value.bool false)).toArray
theorem zeroCells54_size : zeroCells54.size = 256 := by kernel_rfl
@[simp] theorem zeroCells54_ne : zeroCells54 ≠ #[] := fun e => by have h := zeroCells54_size; rw [e] at h; cases h
@[simp] theorem zeroValue54 (w : World) : (zeroValue 54).run Tryd.prog w = .ok (.agg zeroCells54) w := by kernel_rfl
def zeroCells49 : Array Value := (List.replicate 256 (Value.bool false)).toArray
theorem zeroCells49_size : zeroCells49.size = 256 := by kernel_rfl
@[simp] theorem zeroCells49_ne : zeroCells49 ≠ #[] := fun e => by have h := zeroCells49_size; rw [e] at h; cases h
@[simp] theorem zeroValue49 (w : World) : (zeroValue 49).run Tryd.prog w = .ok (.agg zeroCells49) w := by kernel_rfl
end Go.Proofs.YtieagbjempndnabDoor
