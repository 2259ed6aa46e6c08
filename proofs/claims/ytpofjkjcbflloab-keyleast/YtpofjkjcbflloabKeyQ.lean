/- What a world has kept since w0: a row of cells. -/
import Derived.Test.YtpofjkjcbflloabKeyMath
namespace Go.Proofs.Ytpofjkjcbflloab
open Go.RowKit

structure Kq (w0 : World) (l : List (Addr × Value)) (w : World) : Prop where
  below : Below w0.heap.size w0 w
  cells : ∀ p ∈ l, w.cell? p.1 = some p.2
theorem Kq.start (w : World) : Kq w [] w := ⟨Below.refl _ _, by simp⟩
theorem Kq.alloc {w0 w : World} {l : List (Addr × Value)} (h : Kq w0 l w) (o : Obj) : Kq w0 l (w.alloc o) :=
  ⟨h.below.alloc h.below.size _, fun p hp => by
    have c := h.cells p hp
    exact (World.cell?_alloc_some _ _ _ (by rw [c]; rfl)).trans c⟩
theorem Kq.call {w0 w w' : World} {l : List (Addr × Value)} (h : Kq w0 l w) (hb : Below w.heap.size w w') : Kq w0 l w' :=
  ⟨h.below.trans (hb.mono h.below.size), fun p hp => cell_later hb (h.cells p hp)⟩
theorem Kq.drew {w0 w : World} {l : List (Addr × Value)} (h : Kq w0 l w) : Kq w0 l w.drew := ⟨h.below.drew, h.cells⟩
theorem Kq.sub {w0 w : World} {l l' : List (Addr × Value)} (h : Kq w0 l w) (hl : ∀ p ∈ l', p ∈ l) : Kq w0 l' w := ⟨h.below, fun p hp => h.cells p (hl p hp)⟩
theorem Kq.box2 {w0 w : World} {l : List (Addr × Value)} (h : Kq w0 l w) (n : Nat) (x y : Value) (t : TypeId) (hn : n = w.heap.size) : Kq w0 ((⟨n, 0, none⟩, x) :: (⟨n, 1, none⟩, y) :: l) (w.alloc (.cells #[x, y] t)) := by
  refine ⟨h.below.alloc h.below.size _, fun p hp => ?_⟩
  subst hn
  rcases List.mem_cons.mp hp with rfl | hp
  · simp [go_sem]
  rcases List.mem_cons.mp hp with rfl | hp
  · simp [go_sem]
  exact (h.alloc _).cells p hp
theorem Kq.box4 {w0 w : World} {l : List (Addr × Value)} (h : Kq w0 l w) (n : Nat) (x y z u : Value) (t : TypeId) (hn : n = w.heap.size) : Kq w0 ((⟨n, 0, none⟩, x) :: (⟨n, 1, none⟩, y) :: (⟨n, 2, none⟩, z) :: (⟨n, 3, none⟩, u) :: l) (w.alloc (.cells #[x, y, z, u] t)) := by
  refine ⟨h.below.alloc h.below.size _, fun p hp => ?_⟩
  subst hn
  rcases List.mem_cons.mp hp with rfl | hp
  · simp [go_sem]
  rcases List.mem_cons.mp hp with rfl | hp
  · simp [go_sem]
  rcases List.mem_cons.mp hp with rfl | hp
  · simp [go_sem]
  rcases List.mem_cons.mp hp with rfl | hp
  · simp [go_sem]
  exact (h.alloc _).cells p hp
theorem Kq.get {w0 w : World} {l : List (Addr × Value)} (h : Kq w0 l w) (i : Nat) {a : Addr} {v : Value} (hi : l[i]? = some (a, v)) : w.cell? a = some v := h.cells (a, v) (List.mem_of_getElem? hi)
theorem Kq.geta {w0 w : World} {l : List (Addr × Value)} (h : Kq w0 l w) (i : Nat) {a : Addr} {v : Value} (hi : l[i]? = some (a, v)) : ∀ o, (w.alloc o).cell? a = some v := fun o => (h.alloc o).get i hi
theorem Kq.getb {w0 w : World} {l : List (Addr × Value)} (h : Kq w0 l w) (i : Nat) {a : Addr} {v : Value} (hi : l[i]? = some (a, v)) : ∀ o o', ((w.alloc o).alloc o').cell? a = some v := fun o o' => ((h.alloc o).alloc o').get i hi
end Go.Proofs.Ytpofjkjcbflloab
