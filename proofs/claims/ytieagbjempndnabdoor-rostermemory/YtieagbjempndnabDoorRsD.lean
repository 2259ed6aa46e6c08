/- Contracts: the marks of a batch (add); Fits of the program. -/
import Derived.Test.YtieagbjempndnabDoorRsC
import Derived.Test.YtieagbjempndnabDoorRsMath2
import Derived.Deep.RegionHeld3
namespace Go.Proofs.YtieagbjempndnabDoor
open Go.RowKit
set_option linter.unusedVariables false
set_option linter.unusedSimpArgs false

/- Marks lie in a block. -/
def SnAt (w : World) (B : Nat) (t : TypeId) (l : List Int) : Prop := w.heap[B]? = some (.cells (sns l) t (0, 0))
theorem SnAt.lt {w : World} {B : Nat} {t : TypeId} {l : List Int} (h : SnAt w B t l) : B < w.heap.size := (Array.getElem?_eq_some_iff.1 h).1
theorem SnAt.below {n : Nat} {w w' : World} {B : Nat} {t : TypeId} {l : List Int} (h : SnAt w B t l) (hb : Below n w w') (hn : B < n) : SnAt w' B t l := (hb.block B hn).trans h
theorem SnAt.later {w w' : World} {B : Nat} {t : TypeId} {l : List Int} (h : SnAt w B t l) (hb : Below w.heap.size w w') : SnAt w' B t l := h.below hb h.lt
theorem SnAt.new (w : World) (t : TypeId) (l : List Int) : SnAt (w.alloc (.cells (sns l) t)) w.heap.size t l := heap_alloc_last w _
theorem SnAt.cell {w : World} {B : Nat} {t : TypeId} {l : List Int} (h : SnAt w B t l) (k : Nat) (hk : k < 256) : w.cell? ⟨B, k, none⟩ = some (.bool (decide ((k : Int) ∈ l))) := (cell_of_row w B _ _ _ _ h).trans (sns_get l k hk)
theorem row_frozen {w : World} {B : Nat} {cs : Array Value} {t : TypeId} (h : w.heap[B]? = some (.cells cs t (0, 0))) (k : Nat) : w.frozen? ⟨B, k, none⟩ = false := by
  simp [World.frozen?, h]
theorem row_setCell {w : World} {B : Nat} {cs : Array Value} {t : TypeId} (h : w.heap[B]? = some (.cells cs t (0, 0))) (k : Nat) (v : Value) : (w.setCell ⟨B, k, none⟩ v).heap[B]? = some (.cells (cs.setIfInBounds k v) t (0, 0)) := by
  simp only [World.setCell, Array.getElem?_modify]
  rw [if_pos trivial, h]
  rfl
theorem other_setCell {w : World} {B C : Nat} (h : C ≠ B) (k : Nat) (v : Value) : (w.setCell ⟨B, k, none⟩ v).heap[C]? = w.heap[C]? := by
  simp only [World.setCell, Array.getElem?_modify]
  rw [if_neg (fun e => h e.symm)]
theorem SnAt.set {w : World} {B : Nat} {t : TypeId} {l : List Int} (h : SnAt w B t l) (k : Nat) (hk : k < 256) : SnAt (w.setCell ⟨B, k, none⟩ (.bool true)) B t (l ++ [(k : Int)]) := by
  have := row_setCell h k (.bool true)
  rw [sns_set l k hk] at this
  exact this
theorem RoAt.other {w : World} {B C : Nat} {f : Nat → En} (h : RoAt w C f) (hne : C ≠ B) (k : Nat) (v : Value) : RoAt (w.setCell ⟨B, k, none⟩ v) C f := (other_setCell hne k v).trans h
theorem zero62 : zeroCells54 = sns [] := by kernel_rfl
theorem add_who (p : Value) (x : Int) (h : wok x = false) (w : World) : Calls Tryd.prog 21 #[p, .int .i64 x] w fun e w' => e = .returned (.int .i64 14) ∧ w' = w := by
  have hw := isWho_any x
  rw [h] at hw
  go_enter Tryd.func21, Tryd.ntmps21
  go_wp2_with (go_at_call 31; refine (hw _).mono ?_; rintro r w' ⟨rfl, rfl⟩)
  go_ret
  exact ⟨rfl, rfl⟩
theorem add_twice {w : World} {B : Nat} {l : List Int} (hS : SnAt w B 54 l) (x : Int) (h : wok x = true) (h2 : decide (x ∈ l) = true) : Calls Tryd.prog 21 #[.pointer (some ⟨B, 0, none⟩), .int .i64 x] w fun e w' => e = .returned (.int .i64 15) ∧ w' = w := by
  have hw := isWho_any x
  rw [h] at hw
  obtain ⟨k, rfl, hk⟩ := wok_nat h
  have hc := hS.cell k hk
  rw [h2] at hc
  have k1 : (k : Int) < 256 := by omega
  clear h2
  go_enter Tryd.func21, Tryd.ntmps21
  go_wp2_with (go_at_call 31; refine (hw _).mono ?_; rintro r w' ⟨rfl, rfl⟩)
  go_ret
  exact ⟨rfl, rfl⟩
theorem add_ok {w : World} {B : Nat} {l : List Int} (hS : SnAt w B 54 l) (k : Nat) (hk : k < 256) (h : wok (k : Int) = true) (h2 : decide ((k : Int) ∈ l) = false) : Calls Tryd.prog 21 #[.pointer (some ⟨B, 0, none⟩), .int .i64 (k : Int)] w fun e w' => e = .returned (.int .i64 0) ∧ w' = w.setCell ⟨B, k, none⟩ (.bool true) := by
  have hw := isWho_any (k : Int)
  rw [h] at hw
  have hc := hS.cell k hk
  rw [h2] at hc
  have hf := row_frozen hS k
  have k1 : (k : Int) < 256 := by omega
  clear h2
  go_enter Tryd.func21, Tryd.ntmps21
  go_wp2_with (go_at_call 31; refine (hw _).mono ?_; rintro r w' ⟨rfl, rfl⟩)
  go_ret
  exact ⟨rfl, rfl⟩
end Go.Proofs.YtieagbjempndnabDoor
