/- The document's closed table in memory; lists of keys and of boxes that are read. -/
import Derived.Test.YtompgoaogomoaaaKnA
import Derived.Maps.OwnOps
import Derived.Maps.RangeWalk
import Derived.Laws.OwnMore
import Derived.Laws.Rows
import Derived.Deep.AppendLies
import Derived.Deep.RegionHeld3
import Derived.Deep.DeepCutAuto
import Derived.Deep.DrawnRows
namespace Go.Proofs.Ytompgoaogomoaaa.Kn
open Go.RowKit Go.Maps
set_option linter.unusedVariables false
set_option linter.unusedSimpArgs false

def tbl (f : Nat → Int) (n : Nat) : List Value := (List.range n).map fun i => .int .i64 (f i)
section
variable {f : Nat → Int} {n i b g c N : Nat} {v : Int} {w W W' : World}
@[simp] theorem tbl_length : (tbl f n).length = n := by simp [tbl]
theorem tbl_get (h : i < n) : (tbl f n)[i]? = some (.int .i64 (f i)) := by simp [tbl, h]
theorem tbl_set : (tbl f n).set i (.int .i64 v) = tbl (upT f i v) n := by
  apply List.ext_getElem
  · simp
  · intro j h1 h2
    rw [List.getElem_set]
    simp only [tbl, List.getElem_map, List.getElem_range, upT]
    by_cases e : i = j
    · rw [if_pos e, if_pos e.symm]
    · rw [if_neg e, if_neg (fun e' => e e'.symm)]
theorem tbl_zero : tbl (fun _ => 0) n = List.replicate n (.int .i64 0) := by
  apply List.ext_getElem
  · simp
  · intro i h1 h2
    simp [tbl]
/- A table that was made since w. -/
structure CL (w W : World) (N g c : Nat) (f : Nat → Int) : Prop where
  tab : W.ownsRow w.heap.size 3 1 (.slice (some ⟨g, 0, none⟩) N c) N (tbl f N)
  bel : Below w.heap.size w W
theorem own_later {B e k n : Nat} {v : Value} {xs : List Value} (h : W.ownsRow B e k v n xs) (hb : Below W.heap.size W W') : W'.ownsRow B e k v n xs := by
  refine ⟨h.1, ?_⟩
  rcases h.2 with h0 | ⟨g, cap, cur, rfl, hbg, hgg, rest⟩
  · exact .inl h0
  · refine .inr ⟨g, cap, cur, rfl, hbg, ?_, rest⟩
    rw [hb.block g (Array.getElem?_eq_some_iff.1 hgg).1]
    exact hgg
theorem CL.later (h : CL w W N g c f) (hb : Below W.heap.size W W') : CL w W' N g c f := ⟨own_later h.tab hb, h.bel.trans (hb.mono h.bel.size)⟩
theorem CL.drawn (h : CL w W N g c f) (k : Nat) : CL w (W.drewN k) N g c f := h.later (_root_.Go.below_drewN (Below.refl _ _) _)
theorem CL.alloc (h : CL w W N g c f) (o : Obj) : CL w (W.alloc o) N g c f := h.later (Rt.below1 _ _)
theorem CL.rd (h : CL w W N g c f) (hN : N = 32768) : RdT W g f := fun i hi => by
  rw [h.tab.cellAt i (by omega), tbl_get (by omega)]
theorem CL.cell (h : CL w W N g c f) (hi : i < N) : W.cell? ⟨g, i, none⟩ = some (.int .i64 (f i)) ∧ W.frozen? ⟨g, i, none⟩ = false := ⟨by rw [h.tab.cellAt i (by omega), tbl_get hi], h.tab.frozenAt i⟩
theorem CL.ge (h : CL w W N g c f) : w.heap.size ≤ g := by
  rcases h.tab.2 with ⟨h0, _⟩ | ⟨g', cap', cur, h5, h3, h4, h6, _⟩
  · simp at h0
  · simp at h5
    obtain ⟨rfl, rfl⟩ := h5
    exact h3
theorem CL.put (h : CL w W N g c f) (i : Nat) (v : Int) : CL w (W.setCell ⟨g, i, none⟩ (.int .i64 v)) N g c (upT f i v) := by
  refine ⟨?_, Below.setCell h.bel (by exact h.ge) _⟩
  rw [← tbl_set]
  exact (h.tab.stored i (.int .i64 v)).1
/- Lists that lie in a world from a place on. -/
def RdK (w : World) (a : Option Addr) (l : List K2) : Prop :=
  ∀ i, i < l.length → ∃ b o, a = some ⟨b, o, none⟩ ∧ w.cell? ⟨b, o + i * 2, none⟩ = some (.int .i64 (l.getD i (0, 0)).1) ∧ w.cell? ⟨b, o + i * 2 + 1, none⟩ = some (.int .i64 (l.getD i (0, 0)).2)
def RdB (w : World) (a : Option Addr) (l : List B2) : Prop :=
  ∀ i, i < l.length → ∃ b o, a = some ⟨b, o, none⟩ ∧ w.cell? ⟨b, o + i * 4, none⟩ = some (.int .i64 (l.getD i ((0, 0), (0, 0))).1.1) ∧ w.cell? ⟨b, o + i * 4 + 1, none⟩ = some (.int .i64 (l.getD i ((0, 0), (0, 0))).1.2) ∧ w.cell? ⟨b, o + i * 4 + 2, none⟩ = some (.int .i64 (l.getD i ((0, 0), (0, 0))).2.1) ∧ w.cell? ⟨b, o + i * 4 + 3, none⟩ = some (.int .i64 (l.getD i ((0, 0), (0, 0))).2.2)
theorem RdK.later {a : Option Addr} {l : List K2} (h : RdK W a l) (hb : Below W.heap.size W W') : RdK W' a l := fun i hi => by
  obtain ⟨b, o, e, c0, c1⟩ := h i hi
  exact ⟨b, o, e, cell_later hb c0, cell_later hb c1⟩
theorem RdB.later {a : Option Addr} {l : List B2} (h : RdB W a l) (hb : Below W.heap.size W W') : RdB W' a l := fun i hi => by
  obtain ⟨b, o, e, c0, c1, c2, c3⟩ := h i hi
  exact ⟨b, o, e, cell_later hb c0, cell_later hb c1, cell_later hb c2, cell_later hb c3⟩
end
end Go.Proofs.Ytompgoaogomoaaa.Kn
