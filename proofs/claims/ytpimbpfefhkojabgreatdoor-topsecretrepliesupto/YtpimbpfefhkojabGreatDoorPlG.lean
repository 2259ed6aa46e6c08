/- Contracts: the document's item and Items. -/
import Derived.Test.YtpimbpfefhkojabGreatDoorPlF
namespace Go.Proofs.YtpimbpfefhkojabGreatDoor
open Go.RowKit Go.Maps
open Rt (Ky zK kcs KyAt)
open Rs (En zE rcs RoAt tkn RdS)
set_option linter.unusedVariables false
set_option linter.unusedSimpArgs false

def ItAt (w : World) (B : Nat) (x : It) : Prop := w.heap[B]? = some (.cells #[.int .i64 x.nd, .int .i64 x.fm, .int .i64 x.un.bas, .int .i64 x.un.stp, .int .i64 x.ld.bas, .int .i64 x.ld.stp] 57 (0, 0))
def iz : Array Value := #[.int .i64 0, .int .i64 0, .int .i64 0, .int .i64 0, .int .i64 0, .int .i64 0]
structure SI (w W : World) (B R : Nat) (t : Tr) : Prop where
  tr : TrAt W B t
  it : W.heap[R]? = some (.cells iz 57 (0, 0))
  bel : Below w.heap.size w W
  ge : w.heap.size ≤ R
theorem SI.later {w W W' : World} {B R : Nat} {t : Tr} (h : SI w W B R t) (hb : Below W.heap.size W W') : SI w W' B R t := ⟨h.tr.later hb, (hb.block R (Array.getElem?_eq_some_iff.1 h.it).1).trans h.it, h.bel.trans (hb.mono h.bel.size), h.ge⟩
theorem SI.new (w : World) (t : Tr) : SI w ((w.alloc (.cells (tcs t) 47)).alloc (.cells iz 57)) w.heap.size (w.heap.size + 1) t := by
  have h1 := TrAt.new w t
  have hb1 := alloc_tr w t
  have h2 := heap_alloc_last (w.alloc (.cells (tcs t) 47)) (.cells iz 57)
  have hb2 := below_alloc (w.alloc (.cells (tcs t) 47)) (.cells iz 57)
  rw [World.size_alloc] at h2
  exact ⟨h1.later hb2, h2, hb1.trans (hb2.mono hb1.size), by omega⟩
/- The tree, boxed, and the list, in a variable. -/
structure GI (w W : World) (B : Nat) (t : Tr) (n0 : Nat) (v : Value) (l : List It) : Prop where
  tr : TrAt W B t
  row : W.ownsRow n0 57 6 v l.length (isl l)
  bel : Below w.heap.size w W
  bt : B < n0
  wl : w.heap.size ≤ n0
  sz : n0 ≤ W.heap.size
theorem GI.later {w W W' : World} {B n0 : Nat} {t : Tr} {v : Value} {l : List It} (h : GI w W B t n0 v l) (hb : Below W.heap.size W W') : GI w W' B t n0 v l := ⟨h.tr.later hb, Rs.owns_later h.row hb, h.bel.trans (hb.mono h.bel.size), h.bt, h.wl, Nat.le_trans h.sz hb.size⟩
theorem GI.app2 {w W W1 : World} {B n0 : Nat} {t : Tr} {v v' : Value} {l : List It} {o : Obj} {x : It} (tr : TrAt W B t) (bel : Below w.heap.size w W) (row : W.ownsRow n0 57 6 v l.length (isl l)) (sz : n0 ≤ W.heap.size) (bt : B < n0) (wl : w.heap.size ≤ n0)
    (hown : W1.ownsRow n0 57 6 v' (l.length + 1) (isl l ++ ics x)) (hg : (W.alloc o).grownBy W1 v.ownBlock) : GI w W1 B t n0 v' (l ++ [x]) := by
  have hsz : n0 ≤ W1.heap.size := by have h1 := hg.size; simp at h1; omega
  refine ⟨(Rs.grown_low row hg bt (by omega)).trans tr, ?_, Rs.grown_bel bel row wl hg, bt, wl, hsz⟩
  rw [isl_snoc, List.length_append]
  exact hown
theorem GI.app {w W W1 : World} {B n0 : Nat} {t : Tr} {v v' : Value} {l : List It} {o : Obj} {x : It} (h : GI w W B t n0 v l) (hown : W1.ownsRow n0 57 6 v' (l.length + 1) (isl l ++ ics x)) (hg : (W.alloc o).grownBy W1 v.ownBlock) : GI w W1 B t n0 v' (l ++ [x]) := GI.app2 h.tr h.bel h.row h.sz h.bt h.wl hown hg
/- A seat and a path besides. -/
def Pa3 (w : World) (A : Nat) (p0 p1 p2 : Nat) : Prop := w.heap[A]? = some (.cells #[.int .i64 (p0 : Int), .int .i64 (p1 : Int), .int .i64 (p2 : Int)] 132 (0, 0))
theorem Pa3.cells {w : World} {A p0 p1 p2 : Nat} (h : Pa3 w A p0 p1 p2) : w.cell? ⟨A, 0, none⟩ = some (.int .i64 (p0 : Int)) ∧ w.cell? ⟨A, 1, none⟩ = some (.int .i64 (p1 : Int)) ∧ w.cell? ⟨A, 2, none⟩ = some (.int .i64 (p2 : Int)) := ⟨cell_of_row w A 0 _ _ _ h, cell_of_row w A 1 _ _ _ h, cell_of_row w A 2 _ _ _ h⟩
structure GS (w W : World) (B C A : Nat) (t : Tr) (p : Int × Int) (p0 p1 p2 : Nat) : Prop where
  tr : TrAt W B t
  se : StAt W C p
  pa : Pa3 W A p0 p1 p2
  bel : Below w.heap.size w W
theorem GS.later {w W W' : World} {B C A : Nat} {t : Tr} {p : Int × Int} {p0 p1 p2 : Nat} (h : GS w W B C A t p p0 p1 p2) (hb : Below W.heap.size W W') : GS w W' B C A t p p0 p1 p2 := ⟨h.tr.later hb, h.se.later hb, (hb.block A (Array.getElem?_eq_some_iff.1 h.pa).1).trans h.pa, h.bel.trans (hb.mono h.bel.size)⟩
theorem grown_at {W W1 : World} {n0 : Nat} {v : Value} {n : Nat} {xs : List Value} {o : Obj} (row : W.ownsRow n0 57 6 v n xs) (hg : (W.alloc o).grownBy W1 v.ownBlock) {k : Nat} {cs : Array Value} {T : TypeId} (hk : W.heap[k]? = some (.cells cs T (0, 0))) (hT : T ≠ 57) : W1.heap[k]? = some (.cells cs T (0, 0)) := by
  have hkl := (Array.getElem?_eq_some_iff.1 hk).1
  rw [hg.block k (by simp; omega) (own_type row hk hT)]
  exact (((Below.refl _ W).alloc (Nat.le_refl _) o).block k (by omega)).trans hk
theorem GS.app {w W W1 : World} {B C A n0 : Nat} {t : Tr} {p : Int × Int} {p0 p1 p2 : Nat} {v : Value} {n : Nat} {xs : List Value} {o : Obj} (h : GS w W B C A t p p0 p1 p2) (row : W.ownsRow n0 57 6 v n xs) (wl : w.heap.size ≤ n0) (hg : (W.alloc o).grownBy W1 v.ownBlock) : GS w W1 B C A t p p0 p1 p2 :=
  ⟨grown_at row hg h.tr (by decide), grown_at row hg h.se (by decide), grown_at row hg h.pa (by decide), Rs.grown_bel h.bel row wl hg⟩
end Go.Proofs.YtpimbpfefhkojabGreatDoor
