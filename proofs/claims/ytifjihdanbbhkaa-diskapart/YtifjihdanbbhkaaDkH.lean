/- Writes that are taken; lists that were answered. -/
import Derived.Test.YtifjihdanbbhkaaDkP
namespace Go.Proofs.Ytifjihdanbbhkaa
open Go.RowKit Go.Maps
set_option linter.unusedVariables false
set_option linter.unusedSimpArgs false

def gdb (p : Int × ByteArray) : Bool := decide (0 ≤ p.1) && decide (p.1 < 2048) && decide (p.2.size ≤ 32)
theorem gdb_iff (p : Int × ByteArray) : gdb p = true ↔ Gp p := by
  unfold gdb Gp
  simp [and_assoc]
def S (l : List (Int × ByteArray)) : St := ⟨[], l.filter gdb, -1⟩
theorem S_nil : S [] = nu := rfl
theorem nx_S (l : List (Int × ByteArray)) (x : Int) (t : ByteArray) : nx (S l) x t = S (l ++ [(x, t)]) := by
  by_cases h : Gp (x, t)
  · have hg : gdb (x, t) = true := (gdb_iff _).2 h
    have e : S l = ⟨[], l.filter gdb, -1⟩ := rfl
    rw [e, nx_good h]
    simp [S, List.filter_append, hg]
  · have hg : gdb (x, t) = false := by
      cases hh : gdb (x, t) with
      | false => rfl
      | true => exact absurd ((gdb_iff _).1 hh) h
    have hw : we (S l).left x t ≠ 0 := fun e => h (we_zero e).2
    unfold nx
    rw [if_neg hw]
    simp [S, List.filter_append, hg]
theorem S_take (l : List (Int × ByteArray)) (k : Nat) : ct (S l) (S (l.take k)).log.length = S (l.take k) := by
  have e : l.filter gdb = (l.take k).filter gdb ++ (l.drop k).filter gdb := by rw [← List.filter_append, List.take_append_drop]
  show St.mk [] ((l.filter gdb).take ((l.take k).filter gdb).length) (-1) = _
  rw [e, List.take_left]
  rfl
theorem S_len (l : List (Int × ByteArray)) (k : Nat) : (S (l.take k)).log.length ≤ l.length := by
  show ((l.take k).filter gdb).length ≤ l.length
  have h1 := List.length_filter_le gdb (l.take k)
  have h2 : (l.take k).length ≤ l.length := by simp; omega
  omega
theorem S_all (l : List (Int × ByteArray)) : (S l).log.length ≤ l.length := List.length_filter_le _ _
theorem S_good (l : List (Int × ByteArray)) : ∀ p ∈ (S l).log, Gp p := fun p hp => (gdb_iff p).1 (List.mem_filter.1 hp).2
theorem S_log (l : List (Int × ByteArray)) : S (S l).log = S l := by
  show St.mk [] ((l.filter gdb).filter gdb) (-1) = _
  rw [List.filter_filter]
  simp [S]
theorem k_mod (a : Int) (n : Nat) (hn : n < 5864062014900) : ∃ k : Nat, k ≤ n ∧ wrap64 ((IntKind.u64.wrap a).tmod ((n : Int) + 1)) = (k : Int) := by
  have h0 : 0 ≤ IntKind.u64.wrap a := by rw [IntKind.wrap_u64]; omega
  rw [Int.tmod_eq_emod_of_nonneg h0]
  have h1 := Int.emod_nonneg (IntKind.u64.wrap a) (show ((n : Int) + 1) ≠ 0 by omega)
  have h2 := Int.emod_lt_of_pos (IntKind.u64.wrap a) (show (0 : Int) < (n : Int) + 1 by omega)
  generalize IntKind.u64.wrap a % ((n : Int) + 1) = z at h1 h2
  refine ⟨z.toNat, by omega, ?_⟩
  unfold wrap64
  omega
/- Lists that were answered, and that a disk has nothing to do with. -/
def HoldS (N : Nat) (w : World) (F : Nat → Prop) (v : Value) (l : List ByteArray) : Prop := RwS w N v l ∧ ∀ k, v.ownBlock = some k → ¬ F k
def HoldW (N : Nat) (w : World) (F : Nat → Prop) (v : Value) (l : List (Int × ByteArray)) : Prop := RwW w N v l ∧ ∀ k, v.ownBlock = some k → ¬ F k
theorem HoldS.kept {N : Nat} {w w' : World} {F F' : Nat → Prop} {v : Value} {l : List ByteArray} (h : HoldS N w F v l) (hk : Kept F w w') (hF : ∀ k, F' k → F k ∨ w.heap.size ≤ k) : HoldS N w' F' v l :=
  ⟨hk.row h.1 h.2, fun k e e' => by
    rcases hF k e' with q | q
    · exact h.2 k e q
    · have := (World.ownsRow.lt h.1 k e).2; omega⟩
theorem HoldW.kept {N : Nat} {w w' : World} {F F' : Nat → Prop} {v : Value} {l : List (Int × ByteArray)} (h : HoldW N w F v l) (hk : Kept F w w') (hF : ∀ k, F' k → F k ∨ w.heap.size ≤ k) : HoldW N w' F' v l :=
  ⟨hk.row h.1 h.2, fun k e e' => by
    rcases hF k e' with q | q
    · exact h.2 k e q
    · have := (World.ownsRow.lt h.1 k e).2; omega⟩
theorem HoldS.later {N : Nat} {w w' : World} {F : Nat → Prop} {v : Value} {l : List ByteArray} (h : HoldS N w F v l) (hb : Below w.heap.size w w') : HoldS N w' F v l := ⟨row_later h.1 hb, h.2⟩
theorem HoldW.later {N : Nat} {w w' : World} {F : Nat → Prop} {v : Value} {l : List (Int × ByteArray)} (h : HoldW N w F v l) (hb : Below w.heap.size w w') : HoldW N w' F v l := ⟨row_later h.1 hb, h.2⟩
theorem HoldS.new {N : Nat} {w w' : World} {F : Nat → Prop} {v : Value} {l : List ByteArray} (h : RwS w' w.heap.size v l) (hN : N ≤ w.heap.size) (hF : ∀ k, F k → k < w.heap.size) : HoldS N w' F v l :=
  ⟨row_weak h hN, fun k e e' => by have := hF k e'; have := (World.ownsRow.lt h k e).1; omega⟩
theorem HoldW.new {N : Nat} {w w' : World} {F : Nat → Prop} {v : Value} {l : List (Int × ByteArray)} (h : RwW w' w.heap.size v l) (hN : N ≤ w.heap.size) (hF : ∀ k, F k → k < w.heap.size) : HoldW N w' F v l :=
  ⟨row_weak h hN, fun k e e' => by have := hF k e'; have := (World.ownsRow.lt h k e).1; omega⟩
theorem HoldS.rd {N : Nat} {w : World} {F : Nat → Prop} {a : Option Addr} {n c : Nat} {l : List ByteArray} (h : HoldS N w F (.slice a n c) l) : RdS w a l := h.1.rd
theorem HoldW.rd {N : Nat} {w : World} {F : Nat → Prop} {a : Option Addr} {n c : Nat} {l : List (Int × ByteArray)} (h : HoldW N w F (.slice a n c) l) : RdW w a l := h.1.rd
/- What the loop has: the lists of the k-th round, once it is past. -/
def Got (N : Nat) (w : World) (F : Nat → Prop) (ws : List (Int × ByteArray)) (k j T L : Nat) (v7 v8 : Value) : Prop :=
  (j ≤ k ∧ v7 = .slice none 0 0 ∧ v8 = .slice none 0 0) ∨ (k < j ∧ ∃ a7 c7 a8 c8, v7 = .slice a7 T c7 ∧ v8 = .slice a8 L c8 ∧ HoldS N w F v7 (im (S (ws.take k)).bl) ∧ HoldW N w F v8 (S (ws.take k)).log)
theorem Got.kept {N : Nat} {w w' : World} {F F' : Nat → Prop} {ws : List (Int × ByteArray)} {k j T L : Nat} {v7 v8 : Value} (h : Got N w F ws k j T L v7 v8) (hj : j ≠ k) (hk : Kept F w w') (hF : ∀ k, F' k → F k ∨ w.heap.size ≤ k) : Got N w' F' ws k (j + 1) T L v7 v8 := by
  rcases h with ⟨h1, h2, h3⟩ | ⟨h1, a7, c7, a8, c8, e7, e8, h7, h8⟩
  · exact .inl ⟨by omega, h2, h3⟩
  · exact .inr ⟨by omega, a7, c7, a8, c8, e7, e8, h7.kept hk hF, h8.kept hk hF⟩
theorem Got.later {N : Nat} {w w' : World} {F : Nat → Prop} {ws : List (Int × ByteArray)} {k j T L : Nat} {v7 v8 : Value} (h : Got N w F ws k j T L v7 v8) (hb : Below w.heap.size w w') : Got N w' F ws k j T L v7 v8 := by
  rcases h with ⟨h1, h2, h3⟩ | ⟨h1, a7, c7, a8, c8, e7, e8, h7, h8⟩
  · exact .inl ⟨h1, h2, h3⟩
  · exact .inr ⟨h1, a7, c7, a8, c8, e7, e8, h7.later hb, h8.later hb⟩
theorem two_cells (w : World) (x y : Value) (t : TypeId) : (w.alloc (.cells #[x, y] t)).cell? ⟨w.heap.size, 0, none⟩ = some x ∧ (w.alloc (.cells #[x, y] t)).cell? ⟨w.heap.size, 1, none⟩ = some y := by
  have := heap_alloc_new w (.cells #[x, y] t)
  exact ⟨by unfold World.cell?; rw [this]; rfl, by unfold World.cell?; rw [this]; rfl⟩
end Go.Proofs.Ytifjihdanbbhkaa
