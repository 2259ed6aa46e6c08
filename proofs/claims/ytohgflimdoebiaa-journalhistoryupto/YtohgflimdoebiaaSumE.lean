/- A row of bytes made of a text, and stores into it. -/
import Derived.Test.YtohgflimdoebiaaSumD
import Derived.Laws.IdiomStrings
namespace Go.Proofs.Ytohgflimdoebiaa.Sm
open Go.RowKit Go.Maps
set_option linter.unusedVariables false

/- The block g holds these bytes from its beginning on, and none of them is frozen. -/
structure Bs (w : World) (g : Nat) (l : List UInt8) : Prop where
  cell : ∀ j b, l[j]? = some b → w.cell? ⟨g, j, none⟩ = some (.int .u8 (b.toNat : Int))
  free : ∀ j, j < l.length → w.frozen? ⟨g, j, none⟩ = false
theorem bs_conv (w : World) (s : ByteArray) (e : TypeId) (cap : Nat) : Bs (w.drew.alloc (.cells (bytesRow s cap) e ((bytesRow s cap).size, (bytesRow s cap).size + 1))) w.heap.size s.data.toList := by
  obtain ⟨C, hC⟩ : ∃ C, bytesRow s cap = C := ⟨_, rfl⟩
  have hds : s.data.size = s.size := rfl
  have hs : s.size ≤ C.size := by
    rw [← hC]
    unfold bytesRow
    simp
  have hget : ∀ (j : Nat) (b : UInt8), s.data.toList[j]? = some b → C[j]? = some (Value.int .u8 (b.toNat : Int)) := by
    intro j b hj
    have hj2 : j < s.data.size := by have := (List.getElem?_eq_some_iff.1 hj).1; simpa using this
    rw [← hC]
    unfold bytesRow
    rw [Array.getElem?_append_left (by simpa using hj2)]
    simp at hj
    simp [hj]
  rw [hC]
  have hb : (w.drew.alloc (.cells C e (C.size, C.size + 1))).heap[w.heap.size]? = some (.cells C e (C.size, C.size + 1)) := by
    show (w.heap.push _)[w.heap.size]? = _
    simp
  refine ⟨fun j b hj => ?_, fun j hj => ?_⟩
  · rw [← hget j b hj]
    unfold World.cell?
    simp only [hb]
    rfl
  · have hl : s.data.toList.length = s.size := by rw [Array.length_toList]; rfl
    have hj2 : j < C.size := by omega
    unfold World.frozen?
    simp only [hb]
    simp; omega
theorem Bs.below {w w' : World} {g : Nat} {l : List UInt8} (h : Bs w g l) (hb : Below w.heap.size w w') (hg : g < w.heap.size) : Bs w' g l :=
  ⟨fun j b hj => (hb.cell (p := ⟨g, j, none⟩) hg).trans (h.cell j b hj), fun j hj => (hb.frozen (p := ⟨g, j, none⟩) hg).trans (h.free j hj)⟩
theorem Bs.store {w : World} {g : Nat} {l : List UInt8} (h : Bs w g l) (i : Nat) (b : UInt8) (hi : i < l.length) : Bs (w.setCell ⟨g, i, none⟩ (.int .u8 (b.toNat : Int))) g (l.set i b) := by
  refine ⟨fun j c hj => ?_, fun j hj => ?_⟩
  · by_cases e : i = j
    · subst e
      rw [List.getElem?_set_self (by omega)] at hj
      simp at hj
      subst hj
      exact World.cell?_setCell_same w _ _ (h.cell i l[i] (List.getElem?_eq_getElem hi))
    · rw [List.getElem?_set_ne e] at hj
      rw [World.cell?_setCell_other _ _ _ _ (by intro e2; cases e2; exact e rfl)]
      exact h.cell j c hj
  · rw [World.frozen?_setCell]
    exact h.free j (by simpa using hj)
theorem Bs.conv {w : World} {g cap n : Nat} {l : List UInt8} (h : Bs w g l) (hn : l.length = n) : (convert 120 9 (.slice (some ⟨g, 0, none⟩) n cap)).run Try.prog w = .ok (.string ⟨l.toArray⟩) w := by
  subst hn
  exact run_convert_bytes_back (P := Try.prog) w 120 9 5 ⟨g, 0, none⟩ cap l Try.underlying120 Try.underlying5 Try.underlying9 (fun j hj => by
      have e : ((⟨g, 0, none⟩ : Addr).add j) = ⟨g, j, none⟩ := by unfold Addr.add; split <;> simp_all
      rw [e, h.cell j l[j] (List.getElem?_eq_getElem hj)])
end Go.Proofs.Ytohgflimdoebiaa.Sm
