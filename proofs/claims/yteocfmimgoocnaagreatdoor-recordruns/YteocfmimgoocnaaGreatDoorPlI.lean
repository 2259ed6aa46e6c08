/- Contracts: three, lives; the document's SameItems, Same. -/
import Derived.Test.YteocfmimgoocnaaGreatDoorPlH
import Derived.Test.YteocfmimgoocnaaGreatDoorPlJ1
import Derived.Deep.RegionHeld3
namespace Go.Proofs.YteocfmimgoocnaaGreatDoor
open Go.RowKit Go.Maps Go.Great
open Rt (Ky zK kcs)
open Rs (En zE rcs tkn RdI RdS ps evl Tb)
set_option linter.unusedVariables false
set_option linter.unusedSimpArgs false

theorem rk_one (p : Int) (a b c : Option Addr) (l m n i j k : Nat) : (#[.int .i64 p, .slice a l i, .slice b m j, .slice c n k] : Array Value).all (·.oneCell') = true := by simp [Value.oneCell']
/- An answer's two boxes. -/
theorem two_boxes (w : World) (u : Tr) (c cs : Array Value) (hc : tcs u = c) :
    TrAt ((w.alloc (.cells Tryz.zeroCells31 31)).alloc (.cells #[.int .i64 0, .slice none 0 0, .slice none 0 0, .slice none 0 0] 45)) w.heap.size (tz 0)
    ∧ RkAt (((w.alloc (.cells Tryz.zeroCells31 31)).alloc (.cells #[.int .i64 0, .slice none 0 0, .slice none 0 0, .slice none 0 0] 45)).setRow w.heap.size c) (w.heap.size + 1) rkz
    ∧ ∃ W, (((w.alloc (.cells Tryz.zeroCells31 31)).alloc (.cells #[.int .i64 0, .slice none 0 0, .slice none 0 0, .slice none 0 0] 45)).setRow w.heap.size c).setRow (w.heap.size + 1) cs = W ∧ TrAt W w.heap.size u ∧ RkAt W (w.heap.size + 1) cs ∧ Below w.heap.size w W := by
  rw [alloc_trz]
  have h1 := TrAt.new w (tz 0)
  have hb1 := alloc_tr w (tz 0)
  have h2 : RkAt ((w.alloc (.cells (tcs (tz 0)) 31)).alloc (.cells #[.int .i64 0, .slice none 0 0, .slice none 0 0, .slice none 0 0] 45)) (w.heap.size + 1) rkz := by
    have h := heap_alloc_last (w.alloc (.cells (tcs (tz 0)) 31)) (.cells #[.int .i64 0, .slice none 0 0, .slice none 0 0, .slice none 0 0] 45)
    rw [World.size_alloc] at h
    exact h
  have hb2 := below_alloc (w.alloc (.cells (tcs (tz 0)) 31)) (.cells #[.int .i64 0, .slice none 0 0, .slice none 0 0, .slice none 0 0] 45)
  have h3 := h1.later hb2
  have hb := hb1.trans (hb2.mono hb1.size)
  generalize (w.alloc (.cells (tcs (tz 0)) 31)).alloc (.cells #[.int .i64 0, .slice none 0 0, .slice none 0 0, .slice none 0 0] 45) = W at *
  subst hc
  have h4 : RkAt (W.setRow w.heap.size (tcs u)) (w.heap.size + 1) rkz := (Rt.row_other (by omega) _).trans h2
  have h5 := h3.row u
  exact ⟨h3, h4, _, rfl, (Rt.row_other (by omega) _).trans h5, Rt.heap_setRow_same h4 _, Rt.setRow_below (by omega) (Rt.setRow_below (by omega) hb _) _⟩
theorem rd_three (w : World) : RdI (w.alloc (.cells #[.int .i64 1, .int .i64 2, .int .i64 3] 3)) (some ⟨w.heap.size, 0, none⟩) [1, 2, 3] := fun i hi => by
  have h := heap_alloc_last w (.cells #[.int .i64 1, .int .i64 2, .int .i64 3] 3)
  refine ⟨w.heap.size, 0, rfl, ?_⟩
  rw [Nat.zero_add, cell_of_row _ _ i _ _ _ h]
  have : i = 0 ∨ i = 1 ∨ i = 2 := by simp at hi; omega
  rcases this with rfl | rfl | rfl <;> rfl
theorem rd_one (w : World) : RdI (w.alloc (.cells #[.int .i64 1] 3)) (some ⟨w.heap.size, 0, none⟩) [1] := fun i hi => by
  have h := heap_alloc_last w (.cells #[.int .i64 1] 3)
  refine ⟨w.heap.size, 0, rfl, ?_⟩
  obtain rfl : i = 0 := by simp at hi; omega
  rw [Nat.zero_add, cell_of_row _ _ 0 _ _ _ h]
  rfl
theorem pn_three : pnT stT [] [1, 2, 3] = t3 := by unfold pnT; rw [if_pos three_E]; rfl
/- Items that lie in memory. -/
def RdT (w : World) (a : Option Addr) (l : List It) : Prop := ∀ i, i < l.length → ∃ b, a = some ⟨b, 0, none⟩ ∧ ∀ k v, (ics (l.getD i ⟨0, 0, zK, zK⟩))[k]? = some v → w.cell? ⟨b, i * 6 + k, none⟩ = some v
theorem RdT.later {w w' : World} {a : Option Addr} {l : List It} (h : RdT w a l) (hb : Below w.heap.size w w') : RdT w' a l := fun i hi => by
  obtain ⟨b, e, c⟩ := h i hi
  exact ⟨b, e, fun k v hv => Rs.cell_later hb (c k v hv)⟩
theorem isl_get : ∀ (l : List It) (i k : Nat), i < l.length → k < 6 → (isl l)[i * 6 + k]? = (ics (l.getD i ⟨0, 0, zK, zK⟩))[k]?
  | [], i, k, hi, _ => by cases hi
  | x :: l, 0, k, _, hk => by
    show (ics x ++ isl l)[0 * 6 + k]? = _
    rw [Nat.zero_mul, Nat.zero_add, List.getElem?_append_left (by show k < 6; exact hk)]
    rfl
  | x :: l, i + 1, k, hi, hk => by
    show (ics x ++ isl l)[(i + 1) * 6 + k]? = _
    rw [List.getElem?_append_right (by show 6 ≤ _; omega), show (i + 1) * 6 + k - (ics x).length = i * 6 + k by show _ - 6 = _; omega, isl_get l i k (by simpa using hi) hk]
    rfl
theorem owns_rdT {W : World} {b : Nat} {a : Option Addr} {cap : Nat} {l : List It} (h : W.ownsRow b 98 6 (.slice a l.length cap) l.length (isl l)) : RdT W a l := by
  rcases h.2 with ⟨e, h0⟩ | ⟨g, cap', cur, e, h3, h4, h5, h6, h7, h8⟩
  · intro i hi; omega
  · cases e
    intro i hi
    refine ⟨g, rfl, fun k v hv => ?_⟩
    have hk : k < 6 := by
      have := (List.getElem?_eq_some_iff.1 hv).1
      exact this
    rw [← isl_get l i k hi hk] at hv
    rw [cell_of_row W g (i * 6 + k) _ _ _ h4, ← hv, ← h8, List.getElem?_take_of_lt (by omega)]
    simp
theorem RdT.cells {w : World} {a : Option Addr} {l : List It} (h : RdT w a l) {i : Nat} (hi : i < l.length) {y : It} (hy : l.getD i ⟨0, 0, zK, zK⟩ = y) : ∃ b, a = some ⟨b, 0, none⟩ ∧ w.cell? ⟨b, i * 6, none⟩ = some (.int .i64 y.nd) ∧ w.cell? ⟨b, i * 6 + 1, none⟩ = some (.int .i64 y.fm) ∧ w.cell? ⟨b, i * 6 + 2, none⟩ = some (.int .i64 y.un.bas) ∧ w.cell? ⟨b, i * 6 + 3, none⟩ = some (.int .i64 y.un.stp) ∧ w.cell? ⟨b, i * 6 + 4, none⟩ = some (.int .i64 y.ld.bas) ∧ w.cell? ⟨b, i * 6 + 5, none⟩ = some (.int .i64 y.ld.stp) := by
  obtain ⟨b, e, c⟩ := h i hi
  rw [hy] at c
  exact ⟨b, e, c 0 _ rfl, c 1 _ rfl, c 2 _ rfl, c 3 _ rfl, c 4 _ rfl, c 5 _ rfl⟩
end Go.Proofs.YteocfmimgoocnaaGreatDoor
