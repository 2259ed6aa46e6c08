/- The walk of KeyFewest. -/
import Derived.Test.YtpofjkjcbflloabKfMath
import Derived.Test.YtpofjkjcbflloabKlLeast
import Derived.Test.YtpofjkjcbflloabKlSame
import Derived.Test.YtpofjkjcbflloabKeyD
import Derived.Test.YtpofjkjcbflloabKeyQ
import Derived.Deep.AppendLies
import Derived.Deep.RegionHeld3
namespace Go.Proofs.Ytpofjkjcbflloab
open Go.Maps Go.RowKit Go.Sort Go.Lib
set_option linter.unusedVariables false

theorem good_below (b s : Int) (w : World) : Calls Try.prog 11 #[.agg #[.int .i64 b, .int .i64 s]] w fun r w' => r = .returned (.bool (gd b s)) ∧ Below w.heap.size w w' :=
  (good_any b s w).mono fun e w' ⟨he, hw⟩ => ⟨he, hw ▸ below1 _ _⟩

theorem wrap_j (j : Nat) (h : j ≤ 1000000) : IntKind.i64.wrap ((j : Int) + 1 - 1) = (j : Int) := by
  simp only [IntKind.wrap, IntKind.bits, IntKind.signed]; simp; omega
theorem getD_mem {l : List (Int × Int)} {j : Nat} (h : j < l.length) : l.getD j (0, 0) ∈ l := by rw [List.getD, List.getElem?_eq_getElem h]; exact List.getElem_mem h
theorem drop_cons {l : List (Int × Int)} {j : Nat} (h : j < l.length) : l.drop j = l.getD j (0, 0) :: l.drop (j + 1) := by
  rw [List.drop_eq_getElem_cons h, List.getD, List.getElem?_eq_getElem h]; rfl
theorem kq4 {w0 w : World} {a b c d : Addr} {x y z u : Value} (K : Kq w0 [(a, x), (b, y), (c, z), (d, u)] w) : Kq w0 [(a, x), (b, y), (c, z), (d, u)] w ∧ w.cell? a = some x ∧ w.cell? b = some y ∧ w.cell? c = some z ∧ w.cell? d = some u := ⟨K, K.get 0 rfl, K.get 1 rfl, K.get 2 rfl, K.get 3 rfl⟩
theorem far2 {W W' : World} {row : Option Nat} {b o1 o2 : Nat} {x y : Value} (hg : W.grownBy W' row) (hne : some b ≠ row) (h : W.cell? ⟨b, o1, none⟩ = some x ∧ W.cell? ⟨b, o2, none⟩ = some y) : W'.cell? ⟨b, o1, none⟩ = some x ∧ W'.cell? ⟨b, o2, none⟩ = some y :=
  ⟨(World.cell?_of_block (w := W) (hg.block b (World.block_lt_of_cell? _ _ h.1) hne)).trans h.1, (World.cell?_of_block (w := W) (hg.block b (World.block_lt_of_cell? _ _ h.1) hne)).trans h.2⟩
theorem kq3 {w0 w : World} {a b c : Addr} {x y z : Value} (K : Kq w0 [(a, x), (b, y), (c, z)] w) : Kq w0 [(a, x), (b, y), (c, z)] w ∧ w.cell? a = some x ∧ w.cell? b = some y ∧ w.cell? c = some z := ⟨K, K.get 0 rfl, K.get 1 rfl, K.get 2 rfl⟩
/- What the walk knows of the least keys l of ks. -/
structure Lk (ks l : List (Int × Int)) : Prop where
  le : l.length ≤ 65535
  good : ∀ i, i < l.length → gd (l.getD i (0, 0)).1 (l.getD i (0, 0)).2 = true
  up : ∀ i, i + 1 < l.length → (l.getD i (0, 0)).1 < (l.getD (i + 1) (0, 0)).1
  one : ∀ k, k ∈ ks → cnt l k = if gd k.1 k.2 then 1 else 0
  again : ∀ ms, (∀ k, k ∈ ms ↔ k ∈ ks) → lst ms = l
  self : lst l = l
theorem lk_lst (ks : List (Int × Int)) : Lk ks (lst ks) where
  le := lpart_le _ _
  good := fun i hi => gd_yes (lst_good hi)
  up := fun i hi => lst_up hi
  one := fun k hk => cnt_lst hk
  again := fun ms h => lst_congr h
  self := lst_lst ks
/- What Least answers, of a list that has the least keys l. -/
def Ans (w' : World) (l : List (Int × Int)) (e : Ending) (w'' : World) : Prop :=
  ∃ g cap, e = .returned (.slice (some ⟨g, 0, none⟩) l.length cap) ∧ w'.heap.size ≤ g ∧ w''.ownsRow (w'.heap.size + 1) 25 2 (.slice (some ⟨g, 0, none⟩) l.length cap) l.length (cellsL l) ∧ Below w'.heap.size w' w''
theorem least_ans (a : Option Addr) (c : Nat) (ks l : List (Int × Int)) (w : World) (hl : ks.length ≤ 8796093022208) (h : RdAt w a ks) (he : lst ks = l) : Calls Try.prog 6 #[.slice a ks.length c] w (Ans w l) := by
  subst he; exact least_any a c ks w hl h

end Go.Proofs.Ytpofjkjcbflloab
