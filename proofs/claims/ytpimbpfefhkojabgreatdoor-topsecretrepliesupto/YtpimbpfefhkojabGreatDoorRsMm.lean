/- Lists that are copied, lists that are written to, and what stays. -/
import Derived.Test.YtpimbpfefhkojabGreatDoorRsJ5
import Derived.Test.YtpimbpfefhkojabGreatDoorOpenRs
import Derived.Laws.AppendOwnNone
import Derived.Maps.AppendAt
namespace Go.Proofs.YtpimbpfefhkojabGreatDoor.Rs
open Go.RowKit Go.Maps
set_option linter.unusedVariables false
set_option linter.unusedSimpArgs false

def i64s (l : List Int) : List Value := l.map fun n : Int => Value.int .i64 n
@[simp] theorem i64s_length (l : List Int) : (i64s l).length = l.length := by simp [i64s]
/- A block of cells that may be written. -/
def Slot (W : World) (g : Nat) (t : TypeId) (n : Nat) : Prop := ∃ cs, W.heap[g]? = some (.cells cs t (0, 0)) ∧ n ≤ cs.size
theorem Slot.set {W : World} {g : Nat} {t : TypeId} {n : Nat} (h : Slot W g t n) (g' j : Nat) (u : Value) : Slot (W.setCell ⟨g', j, none⟩ u) g t n := by
  obtain ⟨cs, h1, h2⟩ := h
  by_cases e : g = g'
  · subst e
    exact ⟨_, row_setCell h1 j u, by simpa using h2⟩
  · exact ⟨cs, (other_setCell e j u).trans h1, h2⟩
theorem Slot.kept {W W' : World} {g : Nat} {t : TypeId} {n : Nat} (h : Slot W g t n) (he : W'.heap[g]? = W.heap[g]?) : Slot W' g t n := by
  obtain ⟨cs, h1, h2⟩ := h
  exact ⟨cs, he.trans h1, h2⟩
theorem Slot.lt {W : World} {g : Nat} {t : TypeId} {n : Nat} (h : Slot W g t n) : g < W.heap.size := by
  obtain ⟨cs, h1, h2⟩ := h
  exact (Array.getElem?_eq_some_iff.1 h1).1
theorem Slot.cell {W : World} {g : Nat} {t : TypeId} {n : Nat} (h : Slot W g t n) {j : Nat} (hj : j < n) : (∃ u, W.cell? ⟨g, j, none⟩ = some u) ∧ W.frozen? ⟨g, j, none⟩ = false := by
  obtain ⟨cs, h1, h2⟩ := h
  exact ⟨⟨cs[j]'(by omega), by rw [cell_of_row W g j _ _ _ h1]; exact Array.getElem?_eq_getElem (by omega)⟩, row_frozen h1 j⟩
theorem own_ge {W : World} {b : Nat} {e : TypeId} {sz : Nat} {v : Value} {n : Nat} {xs : List Value} (h : W.ownsRow b e sz v n xs) {g : Nat} (hg : v.ownBlock = some g) : b ≤ g ∧ g < W.heap.size := by
  rcases h.2 with ⟨rfl, _⟩ | ⟨g', cap, cur, rfl, h3, h4, _⟩
  · simp [Value.ownBlock] at hg
  · simp [Value.ownBlock] at hg
    subst hg
    exact ⟨h3, (Array.getElem?_eq_some_iff.1 h4).1⟩
theorem own_ne {W : World} {b : Nat} {e t : TypeId} {sz : Nat} {v : Value} {n m : Nat} {xs : List Value} (h : W.ownsRow b e sz v n xs) {g : Nat} (hs : Slot W g t m) (hne : e ≠ t) : v.ownBlock ≠ some g := fun hg => by
  rcases h.2 with ⟨rfl, _⟩ | ⟨g', cap, cur, rfl, h3, h4, _⟩
  · simp [Value.ownBlock] at hg
  · simp [Value.ownBlock] at hg
    subst hg
    obtain ⟨cs, h1, _⟩ := hs
    rw [h4] at h1
    simp at h1
    exact hne h1.2
theorem own_other {W W' : World} {b : Nat} {e : TypeId} {sz : Nat} {v : Value} {n : Nat} {xs : List Value} (h : W.ownsRow b e sz v n xs) (hk : ∀ g, v.ownBlock = some g → W'.heap[g]? = W.heap[g]?) : W'.ownsRow b e sz v n xs := by
  obtain ⟨h1, h2⟩ := h
  refine ⟨h1, ?_⟩
  rcases h2 with h2 | ⟨g, cap, cur, rfl, h3, h4, r⟩
  · exact .inl h2
  · exact .inr ⟨g, cap, cur, rfl, h3, (hk g (by simp [Value.ownBlock])).trans h4, r⟩
theorem own_set {W : World} {b : Nat} {e : TypeId} {sz : Nat} {v : Value} {n : Nat} {xs : List Value} (h : W.ownsRow b e sz v n xs) (g' j : Nat) (u : Value) : ∃ ys, (W.setCell ⟨g', j, none⟩ u).ownsRow b e sz v n ys := by
  rcases h.2 with ⟨rfl, h0⟩ | ⟨g, cap, cur, rfl, h3, h4, _⟩
  · exact ⟨xs, h.1, .inl ⟨rfl, h0⟩⟩
  · by_cases he : g = g'
    · subst he
      exact ⟨_, (h.stored j u).1⟩
    · refine ⟨xs, own_other h fun k hk => other_setCell ?_ j u⟩
      simp [Value.ownBlock] at hk
      subst hk
      exact he
/- What stays, but for the blocks of P. -/
structure Ke (P : Nat → Prop) (V W : World) : Prop where
  size : V.heap.size ≤ W.heap.size
  block : ∀ k, k < V.heap.size → ¬ P k → W.heap[k]? = V.heap[k]?
theorem Ke.refl (P : Nat → Prop) (V : World) : Ke P V V := ⟨Nat.le_refl _, fun _ _ _ => rfl⟩
theorem Ke.set {P : Nat → Prop} {V W : World} (h : Ke P V W) {g : Nat} (hg : P g) (j : Nat) (u : Value) : Ke P V (W.setCell ⟨g, j, none⟩ u) :=
  ⟨by simpa using h.size, fun k hk hn => (other_setCell (fun e => hn (by rw [e]; exact hg)) j u).trans (h.block k hk hn)⟩
theorem Ke.grown {P : Nat → Prop} {V W W' : World} (h : Ke P V W) {o : Obj} {r : Option Nat} (hg : (W.alloc o).grownBy W' r) (hr : ∀ j, r = some j → j < V.heap.size → P j) : Ke P V W' := by
  have h1 := h.size
  have h2 := hg.size
  rw [World.size_alloc] at h2
  refine ⟨by omega, fun k hk hn => ?_⟩
  rw [hg.block k (by simp; omega) (fun e => hn (hr k e.symm hk))]
  exact (((Below.refl _ W).alloc (Nat.le_refl _) o).block k (by omega)).trans (h.block k hk hn)
theorem RdS.ke {P : Nat → Prop} {V W : World} {a : Option Addr} {l : List (Int × Int)} (h : RdS V a l) (hk : Ke P V W) (hne : ∀ b, a = some ⟨b, 0, none⟩ → ¬ P b) : RdS W a l := fun i hi => by
  obtain ⟨b, e, c0, c1⟩ := h i hi
  have hlt := World.block_lt_of_cell? V _ c0
  have hb := hk.block b hlt (hne b e)
  exact ⟨b, e, (World.cell?_of_block hb).trans c0, (World.cell?_of_block hb).trans c1⟩
/- Two rows of seats and two of numbers that are written to. -/
structure PA (w V W : World) (P : Nat → Prop) (s : Nat) (vl : Value) (NL : Nat) (Xl : List Value) (vj : Value) (NJ : Nat) (Xj : List Value) (ga gb nL nJ : Nat) : Prop where
  ke : Ke P V W
  bel : Below w.heap.size w W
  sa : Slot W ga 3 nL
  sb : Slot W gb 3 nJ
  ol : W.ownsRow s 107 2 vl NL Xl
  oj : W.ownsRow s 107 2 vj NJ Xj
  ap : vl.ownBlock = none ∨ vl.ownBlock ≠ vj.ownBlock
  ws : w.heap.size ≤ s
  wa : w.heap.size ≤ ga
  wb : w.heap.size ≤ gb
  vs : s ≤ V.heap.size
section
variable {w V W W' : World} {P : Nat → Prop} {s : Nat} {vl : Value} {NL : Nat} {Xl : List Value} {vj : Value} {NJ : Nat} {Xj : List Value} {ga gb nL nJ : Nat}
theorem PA.setS (h : PA w V W P s vl NL Xl vj NJ Xj ga gb nL nJ) {g : Nat} (hg : P g) (hw : w.heap.size ≤ g) (j : Nat) (u : Value) : ∃ Yl Yj, PA w V (W.setCell ⟨g, j, none⟩ u) P s vl NL Yl vj NJ Yj ga gb nL nJ := by
  obtain ⟨Yl, hl⟩ := own_set h.ol g j u
  obtain ⟨Yj, hj⟩ := own_set h.oj g j u
  exact ⟨Yl, Yj, h.ke.set hg j u, h.bel.setCell (p := ⟨g, j, none⟩) hw u, h.sa.set g j u, h.sb.set g j u, hl, hj, h.ap, h.ws, h.wa, h.wb, h.vs⟩
theorem PA.set2 (h : PA w V W P s vl NL Xl vj NJ Xj ga gb nL nJ) {g : Nat} (hg : P g) (hw : w.heap.size ≤ g) (j j' : Nat) (u u' : Value) : ∃ Yl Yj, PA w V ((W.setCell ⟨g, j, none⟩ u).setCell ⟨g, j', none⟩ u') P s vl NL Yl vj NJ Yj ga gb nL nJ := by
  obtain ⟨_, _, h1⟩ := h.setS hg hw j u
  exact h1.setS hg hw j' u'
theorem PA.appl {v' : Value} {n' : Nat} {X' : List Value} {o : Obj} (h : PA w V W P s vl NL Xl vj NJ Xj ga gb nL nJ) (hown : W'.ownsRow s 107 2 v' n' X') (hg : (W.alloc o).grownBy W' vl.ownBlock) (hat : v'.ownBlock = vl.ownBlock ∨ v'.ownBlock = some (W.alloc o).heap.size) (hP : ∀ g, vl.ownBlock = some g → g < V.heap.size → P g) : PA w V W' P s v' n' X' vj NJ Xj ga gb nL nJ := by
  have hs := h.ke.size
  have hv := h.vs
  have hw := h.ws
  have lt : ∀ g, g < W.heap.size → vl.ownBlock ≠ some g → W'.heap[g]? = W.heap[g]? := fun g hlt hne => by
    rw [hg.block g (by simp; omega) (fun e => hne e.symm)]
    exact ((Below.refl _ W).alloc (Nat.le_refl _) o).block g hlt
  have hj : W'.ownsRow s 107 2 vj NJ Xj := own_other h.oj fun g hgj => lt g (own_ge h.oj hgj).2 (fun e => by
    rcases h.ap with h0 | h0
    · rw [h0] at e; cases e
    · exact h0 (e.trans hgj.symm))
  refine ⟨h.ke.grown hg hP, ?_, h.sa.kept (lt _ h.sa.lt (own_ne h.ol h.sa (by decide))), h.sb.kept (lt _ h.sb.lt (own_ne h.ol h.sb (by decide))), hown, hj, ?_, hw, h.wa, h.wb, hv⟩
  · exact grown_bel h.bel h.ol hw hg
  · rcases hat with e | e
    · rw [e]; exact h.ap
    · refine .inr fun e2 => ?_
      rw [e] at e2
      have := (own_ge h.oj e2.symm).2
      simp at this
      omega
end
end Go.Proofs.YtpimbpfefhkojabGreatDoor.Rs
