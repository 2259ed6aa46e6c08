/- Plain functions on the numbers of keys: what the functions of package key answer. -/
import Derived.WalkKit
import Derived.ProofKit
import Derived.Laws.Bits64
import Derived.Below
import Derived.WalkSpells
import Derived.Deep.RegionHeld3
namespace Go.Proofs.Ytompgoaogomoaaa.Rt
open Go.RowKit

theorem ret_int {k : IntKind} {a b : Int} (h : a = b) : Ending.returned (.int k a) = .returned (.int k b) := by rw [h]
theorem ret_bool {a b : Bool} (h : a = b) : Ending.returned (.bool a) = .returned (.bool b) := by rw [h]

def Gd (b s : Int) : Prop := 1 ≤ b ∧ b ≤ 65535 ∧ 0 ≤ s ∧ s ≤ 255
def gd (b s : Int) : Bool := decide (1 ≤ b) && (decide (b ≤ 65535) && (decide (0 ≤ s) && decide (s ≤ 255)))
theorem gd_yes {b s : Int} (h : Gd b s) : gd b s = true := by simp [gd, h.1, h.2.1, h.2.2.1, h.2.2.2]
theorem gd_no {b s : Int} (h : ¬ Gd b s) : gd b s = false := by
  rw [Bool.eq_false_iff]
  intro hh
  simp [gd] at hh
  exact h hh

/- A row of boxed pairs that stay: what a world has kept since w0. -/
def Kp (w0 : World) (l : List (Nat × Value × Value)) (w : World) : Prop :=
  Below w0.heap.size w0 w ∧ ∀ p ∈ l, w.cell? ⟨p.1, 0, none⟩ = some p.2.1 ∧ w.cell? ⟨p.1, 1, none⟩ = some p.2.2
theorem Kp.start (w : World) : Kp w [] w := ⟨Below.refl _ _, by simp⟩
theorem Kp.alloc {w0 w : World} {l : List (Nat × Value × Value)} (h : Kp w0 l w) (o : Obj) : Kp w0 l (w.alloc o) := by
  refine ⟨h.1.alloc h.1.size _, fun p hp => ?_⟩
  obtain ⟨c0, c1⟩ := h.2 p hp
  exact ⟨(World.cell?_alloc_some _ _ _ (by rw [c0]; rfl)).trans c0, (World.cell?_alloc_some _ _ _ (by rw [c1]; rfl)).trans c1⟩
theorem Kp.box {w0 w : World} {l : List (Nat × Value × Value)} (h : Kp w0 l w) (n : Nat) (x y : Value) (t : TypeId) (hn : n = w.heap.size) : Kp w0 ((n, x, y) :: l) (w.alloc (.cells #[x, y] t)) := by
  refine ⟨h.1.alloc h.1.size _, fun p hp => ?_⟩
  rcases List.mem_cons.mp hp with rfl | hp
  · subst hn; exact ⟨by simp [go_sem], by simp [go_sem]⟩
  · exact (h.alloc _).2 p hp
theorem Kp.call {w0 w w' : World} {l : List (Nat × Value × Value)} (h : Kp w0 l w) (hb : Below w.heap.size w w') : Kp w0 l w' := by
  refine ⟨h.1.trans (hb.mono h.1.size), fun p hp => ?_⟩
  obtain ⟨c0, c1⟩ := h.2 p hp
  exact ⟨cell_later hb c0, cell_later hb c1⟩
theorem Kp.call' {w0 w w' : World} {l : List (Nat × Value × Value)} {Q : Prop} (h : Kp w0 l w ∧ Q) (hb : Below w.heap.size w w') : Kp w0 l w' := h.1.call hb
theorem Kp.alloc' {w0 w : World} {l : List (Nat × Value × Value)} {Q : Prop} (h : Kp w0 l w ∧ Q) (o : Obj) : Kp w0 l (w.alloc o) := h.1.alloc o
theorem Kp.below' {w0 w : World} {l : List (Nat × Value × Value)} {Q : Prop} (h : Kp w0 l w ∧ Q) : Below w0.heap.size w0 w := h.1.1
theorem Kp.keep' {w0 w : World} {l : List (Nat × Value × Value)} {Q : Prop} (h : Kp w0 l w ∧ Q) : Kp w0 l w := h.1
theorem Kp.drew {w0 w : World} {l : List (Nat × Value × Value)} (h : Kp w0 l w) : Kp w0 l w.drew := ⟨h.1.drew, h.2⟩
theorem Kp.at {w0 w : World} {l : List (Nat × Value × Value)} {n : Nat} {x y : Value} (h : Kp w0 l w) (hm : (n, x, y) ∈ l) : w.cell? ⟨n, 0, none⟩ = some x ∧ w.cell? ⟨n, 1, none⟩ = some y := h.2 _ hm
theorem Kp.one {w0 w : World} {l : List (Nat × Value × Value)} {n : Nat} {x y : Value} (h : Kp w0 ((n, x, y) :: l) w) : w.cell? ⟨n, 0, none⟩ = some x ∧ w.cell? ⟨n, 1, none⟩ = some y := h.2 _ (List.mem_cons_self ..)
theorem Kp.two {w0 w : World} {l : List (Nat × Value × Value)} {p : Nat × Value × Value} {n : Nat} {x y : Value} (h : Kp w0 (p :: (n, x, y) :: l) w) : w.cell? ⟨n, 0, none⟩ = some x ∧ w.cell? ⟨n, 1, none⟩ = some y := h.2 (n, x, y) (by simp)
theorem Kp.three {w0 w : World} {l : List (Nat × Value × Value)} {p q : Nat × Value × Value} {n : Nat} {x y : Value} (h : Kp w0 (p :: q :: (n, x, y) :: l) w) : w.cell? ⟨n, 0, none⟩ = some x ∧ w.cell? ⟨n, 1, none⟩ = some y := h.2 (n, x, y) (by simp)
theorem Kp.onea {w0 w : World} {l : List (Nat × Value × Value)} {n : Nat} {x y : Value} (h : Kp w0 ((n, x, y) :: l) w) : (∀ o, (w.alloc o).cell? ⟨n, 0, none⟩ = some x) ∧ (∀ o, (w.alloc o).cell? ⟨n, 1, none⟩ = some y) := ⟨fun o => (h.alloc o).one.1, fun o => (h.alloc o).one.2⟩
theorem Kp.oneb {w0 w : World} {l : List (Nat × Value × Value)} {n : Nat} {x y : Value} (h : Kp w0 ((n, x, y) :: l) w) : (∀ o o', ((w.alloc o).alloc o').cell? ⟨n, 0, none⟩ = some x) ∧ (∀ o o', ((w.alloc o).alloc o').cell? ⟨n, 1, none⟩ = some y) := ⟨fun o o' => ((h.alloc o).alloc o').one.1, fun o o' => ((h.alloc o).alloc o').one.2⟩
theorem Kp.twoa {w0 w : World} {l : List (Nat × Value × Value)} {p : Nat × Value × Value} {n : Nat} {x y : Value} (h : Kp w0 (p :: (n, x, y) :: l) w) : (∀ o, (w.alloc o).cell? ⟨n, 0, none⟩ = some x) ∧ (∀ o, (w.alloc o).cell? ⟨n, 1, none⟩ = some y) := ⟨fun o => (h.alloc o).two.1, fun o => (h.alloc o).two.2⟩
theorem Kp.twob {w0 w : World} {l : List (Nat × Value × Value)} {p : Nat × Value × Value} {n : Nat} {x y : Value} (h : Kp w0 (p :: (n, x, y) :: l) w) : (∀ o o', ((w.alloc o).alloc o').cell? ⟨n, 0, none⟩ = some x) ∧ (∀ o o', ((w.alloc o).alloc o').cell? ⟨n, 1, none⟩ = some y) := ⟨fun o o' => ((h.alloc o).alloc o').two.1, fun o o' => ((h.alloc o).alloc o').two.2⟩
theorem Kp.threea {w0 w : World} {l : List (Nat × Value × Value)} {p q : Nat × Value × Value} {n : Nat} {x y : Value} (h : Kp w0 (p :: q :: (n, x, y) :: l) w) : (∀ o, (w.alloc o).cell? ⟨n, 0, none⟩ = some x) ∧ (∀ o, (w.alloc o).cell? ⟨n, 1, none⟩ = some y) := ⟨fun o => (h.alloc o).three.1, fun o => (h.alloc o).three.2⟩
theorem Kp.threeb {w0 w : World} {l : List (Nat × Value × Value)} {p q : Nat × Value × Value} {n : Nat} {x y : Value} (h : Kp w0 (p :: q :: (n, x, y) :: l) w) : (∀ o o', ((w.alloc o).alloc o').cell? ⟨n, 0, none⟩ = some x) ∧ (∀ o o', ((w.alloc o).alloc o').cell? ⟨n, 1, none⟩ = some y) := ⟨fun o o' => ((h.alloc o).alloc o').three.1, fun o o' => ((h.alloc o).alloc o').three.2⟩
theorem kp1 {w0 w : World} {n : Nat} {x y : Value} (K : Kp w0 [(n, x, y)] w) : Kp w0 [(n, x, y)] w ∧ w.cell? ⟨n, 0, none⟩ = some x ∧ w.cell? ⟨n, 1, none⟩ = some y := ⟨K, K.one⟩
theorem kp2 {w0 w : World} {n m : Nat} {x y u v : Value} (K : Kp w0 [(m, u, v), (n, x, y)] w) : Kp w0 [(m, u, v), (n, x, y)] w ∧ w.cell? ⟨m, 0, none⟩ = some u ∧ w.cell? ⟨m, 1, none⟩ = some v ∧ w.cell? ⟨n, 0, none⟩ = some x ∧ w.cell? ⟨n, 1, none⟩ = some y := ⟨K, K.one.1, K.one.2, K.two⟩
theorem kp3 {w0 w : World} {n m k : Nat} {x y u v p q : Value} (K : Kp w0 [(k, p, q), (m, u, v), (n, x, y)] w) : Kp w0 [(k, p, q), (m, u, v), (n, x, y)] w ∧ w.cell? ⟨k, 0, none⟩ = some p ∧ w.cell? ⟨k, 1, none⟩ = some q ∧ w.cell? ⟨m, 0, none⟩ = some u ∧ w.cell? ⟨m, 1, none⟩ = some v ∧ w.cell? ⟨n, 0, none⟩ = some x ∧ w.cell? ⟨n, 1, none⟩ = some y := ⟨K, K.one.1, K.one.2, K.two.1, K.two.2, K.three⟩
theorem below1 (w : World) (o : Obj) : Below w.heap.size w (w.alloc o) := (Below.refl _ _).alloc (Nat.le_refl _) _
theorem Below.more {w0 w : World} (h : Below w0.heap.size w0 w) (o : Obj) : Below w0.heap.size w0 (w.alloc o) := h.alloc h.size _
theorem Below.then {w0 w w' : World} (h : Below w0.heap.size w0 w) (hb : Below w.heap.size w w') : Below w0.heap.size w0 w' := h.trans (hb.mono h.size)
end Go.Proofs.Ytompgoaogomoaaa.Rt
