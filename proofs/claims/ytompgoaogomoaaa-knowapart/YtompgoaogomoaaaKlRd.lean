/- Reading a slice of keys in memory. -/
import Derived.Test.YtompgoaogomoaaaKlMath
namespace Go.Proofs.Ytompgoaogomoaaa.Rt
open Go.RowKit

/- The keys ks lie in a world from that place on. -/
def RdAt (w : World) (a : Option Addr) (ks : List (Int × Int)) : Prop :=
  ∀ i, i < ks.length → ∃ b o, a = some ⟨b, o, none⟩ ∧ w.cell? ⟨b, o + i * 2, none⟩ = some (.int .i64 (ks.getD i (0, 0)).1) ∧ w.cell? ⟨b, o + i * 2 + 1, none⟩ = some (.int .i64 (ks.getD i (0, 0)).2)
theorem RdAt.later {w w' : World} {a : Option Addr} {ks : List (Int × Int)} (h : RdAt w a ks) (hb : Below w.heap.size w w') : RdAt w' a ks := fun i hi => by
  obtain ⟨b, o, e, c0, c1⟩ := h i hi
  exact ⟨b, o, e, cell_later hb c0, cell_later hb c1⟩
theorem RdAt.nil (w : World) (a : Option Addr) : RdAt w a [] := fun i hi => by cases hi
theorem RdAt.take {w : World} {a : Option Addr} {ks : List (Int × Int)} (h : RdAt w a ks) (n : Nat) : RdAt w a (ks.take n) := fun i hi => by
  have hi' : i < n ∧ i < ks.length := by rw [List.length_take] at hi; omega
  obtain ⟨b, o, e, c0, c1⟩ := h i hi'.2
  have q : (ks.take n).getD i (0, 0) = ks.getD i (0, 0) := by simp [hi'.1]
  rw [q]
  exact ⟨b, o, e, c0, c1⟩
theorem RdAt.spot {w : World} {a : Option Addr} {ks : List (Int × Int)} (h : RdAt w a ks) (h0 : ks ≠ []) : ∃ b o, a = some ⟨b, o, none⟩ ∧ ∀ i, i < ks.length → w.cell? ⟨b, o + i * 2, none⟩ = some (.int .i64 (ks.getD i (0, 0)).1) ∧ w.cell? ⟨b, o + i * 2 + 1, none⟩ = some (.int .i64 (ks.getD i (0, 0)).2) := by
  have hp : 0 < ks.length := List.length_pos_iff.2 h0
  obtain ⟨b, o, e, _⟩ := h 0 hp
  refine ⟨b, o, e, fun i hi => ?_⟩
  obtain ⟨b', o', e', c0, c1⟩ := h i hi
  rw [e] at e'
  simp at e'
  obtain ⟨rfl, rfl⟩ := e'
  exact ⟨c0, c1⟩
end Go.Proofs.Ytompgoaogomoaaa.Rt
