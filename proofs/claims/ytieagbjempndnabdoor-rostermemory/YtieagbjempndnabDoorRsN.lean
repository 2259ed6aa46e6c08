/- Take's answer as numbers; lists that are written to. -/
import Derived.Test.YtieagbjempndnabDoorStJ
import Derived.Test.YtieagbjempndnabDoorStK
import Derived.Test.YtieagbjempndnabDoorStF
import Derived.Laws.OwnMore
import Derived.Deep.AppendLies
namespace Go.Proofs.YtieagbjempndnabDoor
open Go.RowKit Go.Maps Go.Shelf
set_option linter.unusedVariables false
set_option linter.unusedSimpArgs false

/- Slots as integers. -/
def zs (l : List Nat) : List Int := l.map fun k => ((k : Nat) : Int)
@[simp] theorem zs_length (l : List Nat) : (zs l).length = l.length := by simp [zs]
theorem zs_getD (l : List Nat) (i : Nat) (h : i < l.length) : (zs l).getD i 0 = ((l[i] : Nat) : Int) := by
  rw [List.getD_eq_getElem?_getD]
  simp [zs, h]
theorem NewL.rd {w w' : World} {v : Value} {l : List Nat} (h : NewL w w' v l) : ∃ a cap, v = .slice a l.length cap ∧ RdI w' a (zs l) := by
  rcases h.2 with ⟨rfl, h0⟩ | ⟨g, cap, cur, rfl, h3, h4, h5, h6, h7, h8⟩
  · have : l = [] := List.length_eq_zero_iff.1 h0
    subst this
    exact ⟨none, 0, rfl, RdI.nil _ _⟩
  · refine ⟨_, cap, rfl, fun i hi => ⟨g, 0, rfl, ?_⟩⟩
    rw [zs_length] at hi
    have := World.ownsRow.cellAt h i (by omega)
    rw [Nat.zero_add, this, zs_getD l i hi]
    simp [nI, hi]
def tkE (s : Nat) (n : Int) : Int := if n < 0 then 1 else if ((bl (nt s)).length : Int) < n then 18 else 0
def tkT (s : Nat) (n : Int) : List Nat := if n < 0 then [] else if ((bl (nt s)).length : Int) < n then [] else (bl (nt s)).take n.toNat
def tkS (s : Nat) (n : Int) : Nat := if n < 0 then 0 else if ((bl (nt s)).length : Int) < n then 0 else pf s ((bl (nt s)).take n.toNat)
theorem TakeP.all {s : Nat} {n : Int} {w w' : World} {e : Ending} (h : TakeP s n w w' e) : ∃ v, e = .returned (.tuple #[v, .int .u64 ((tkS s n : Nat) : Int), .int .i64 (tkE s n)]) ∧ NewL w w' v (tkT s n) := by
  unfold TakeP at h
  unfold tkE tkT tkS
  by_cases h1 : n < 0
  · rw [if_pos h1] at h
    rw [if_pos h1, if_pos h1, if_pos h1]
    exact ⟨_, h, World.ownsRow_nil _ _ _ _⟩
  · rw [if_neg h1] at h
    rw [if_neg h1, if_neg h1, if_neg h1]
    by_cases h2 : ((bl (nt s)).length : Int) < n
    · rw [if_pos h2] at h
      rw [if_pos h2, if_pos h2, if_pos h2]
      exact ⟨_, h, World.ownsRow_nil _ _ _ _⟩
    · rw [if_neg h2] at h
      rw [if_neg h2, if_neg h2, if_neg h2]
      exact h
/- Where it is answered: one after the other. -/
structure TkOk (s : Nat) (n : Int) : Prop where
  pf : pf s (tkT s n) = tkS s n
  lt : ∀ i ∈ tkT s n, i < 64
  low : ∀ k (h : k < (tkT s n).length), hd (bl (nt (_root_.Go.Proofs.YtieagbjempndnabDoor.pf s ((tkT s n).take k)))) = (((tkT s n)[k] : Nat) : Int)
theorem tk_ok {s : Nat} {n : Int} (hs : s < 18446744073709551616) (h : tkE s n = 0) : TkOk s n := by
  unfold tkE at h
  have h1 : ¬ n < 0 := by intro h1; rw [if_pos h1] at h; omega
  rw [if_neg h1] at h
  have h2 : ¬ ((bl (nt s)).length : Int) < n := by intro h2; rw [if_pos h2] at h; omega
  have e1 : tkT s n = (bl (nt s)).take n.toNat := by unfold tkT; rw [if_neg h1, if_neg h2]
  have e2 : tkS s n = pf s ((bl (nt s)).take n.toNat) := by unfold tkS; rw [if_neg h1, if_neg h2]
  refine ⟨by rw [e1, e2], fun i hi => ?_, fun k hk => ?_⟩
  · rw [e1] at hi
    exact (mem_bl.1 (List.mem_of_mem_take hi)).1
  · have hk2 : k < (bl (nt s)).length := by rw [e1] at hk; simp at hk; omega
    have hk3 : k < n.toNat := by rw [e1] at hk; simp at hk; omega
    have e3 : (tkT s n).take k = (bl (nt s)).take k := by rw [e1, List.take_take, Nat.min_eq_left (by omega)]
    rw [e3, bl_pf k hs, hd_drop hk2]
    congr 1
    simp [e1]
theorem tk_len (s : Nat) (n : Int) : (tkT s n).length ≤ 64 := by
  unfold tkT
  have := bl_len (nt s)
  split
  · simp
  · split
    · simp
    · simp; omega
theorem RdI.far {W W' : World} {row : Option Nat} {a : Option Addr} {ks : List Int} (h : RdI W a ks) (hg : W.grownBy W' row) (hne : ∀ b o, a = some ⟨b, o, none⟩ → some b ≠ row) : RdI W' a ks := fun i hi => by
  obtain ⟨b, o, e, c0⟩ := h i hi
  exact ⟨b, o, e, hg.cell c0 (hne b o e)⟩
/- A new list: read, and where it lies. -/
theorem NewL.at' {w w' : World} {v : Value} {l : List Nat} (h : NewL w w' v l) : ∃ a cap, v = .slice a l.length cap ∧ RdI w' a (zs l) ∧ ∀ b o, a = some ⟨b, o, none⟩ → w.heap.size ≤ b ∧ b < w'.heap.size := by
  obtain ⟨a, cap, rfl, hr⟩ := h.rd
  refine ⟨a, cap, rfl, hr, fun b o e => ?_⟩
  rcases h.2 with ⟨h0, _⟩ | ⟨g, cap', cur, h1, h3, h4, _⟩
  · subst e
    simp at h0
  · subst e
    simp at h1
    obtain ⟨⟨rfl, rfl⟩, rfl⟩ := h1
    exact ⟨h3, (Array.getElem?_eq_some_iff.1 h4).1⟩
theorem row_some {W : World} {n0 : Nat} {e : TypeId} {a : Option Addr} {m cap : Nat} {xs : List Value} (h : W.ownsRow n0 e 1 (.slice a m cap) m xs) (hm : 0 < m) : ∃ g, a = some ⟨g, 0, none⟩ ∧ n0 ≤ g ∧ g < W.heap.size := by
  rcases h.2 with ⟨_, h0⟩ | ⟨g, cap', cur, h1, h3, h4, _⟩
  · omega
  · simp at h1
    exact ⟨g, h1.1, h3, (Array.getElem?_eq_some_iff.1 h4).1⟩
theorem below_grown {n0 : Nat} {w W W' : World} {row : Option Nat} (h : Below n0 w W) (hg : W.grownBy W' row) (hn : n0 ≤ W.heap.size) (hr : ∀ j, row = some j → n0 ≤ j) : Below n0 w W' :=
  h.trans ⟨hg.os, hg.tape, hg.output, hg.size, fun k hk => hg.block k (by omega) (fun e => by have := hr k e.symm; omega)⟩
theorem grown_refl (w : World) (row : Option Nat) : w.grownBy w row := ⟨rfl, rfl, rfl, Nat.le_refl _, fun _ _ _ => rfl⟩
theorem grown_trans {A B C : World} {row : Option Nat} (h : A.grownBy B row) (k : B.grownBy C row) : A.grownBy C row :=
  ⟨k.os.trans h.os, k.tape.trans h.tape, k.output.trans h.output, Nat.le_trans h.size k.size, fun j hj hne => (k.block j (Nat.lt_of_lt_of_le hj h.size) hne).trans (h.block j hj hne)⟩
theorem row_cell {W : World} {n0 : Nat} {e : TypeId} {g m cap : Nat} {xs : List Value} (h : W.ownsRow n0 e 1 (.slice (some ⟨g, 0, none⟩) m cap) m xs) (j : Nat) (hj : j < m) : ∃ u, W.cell? ⟨g, j, none⟩ = some u := by
  have hl : j < xs.length := by rw [h.1]; omega
  exact ⟨xs[j], by rw [h.cellAt j (by omega)]; exact List.getElem?_eq_getElem hl⟩
end Go.Proofs.YtieagbjempndnabDoor
