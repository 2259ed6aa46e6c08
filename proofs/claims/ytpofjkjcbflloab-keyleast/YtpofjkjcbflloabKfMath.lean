/- Each good key of a list is given by just one of the least ones. -/
import Derived.Test.YtpofjkjcbflloabKlMath
import Derived.Test.YtpofjkjcbflloabKeyC
namespace Go.Proofs.Ytpofjkjcbflloab
open Go.RowKit

def cnt (l : List (Int × Int)) (k : Int × Int) : Nat := (l.filter fun p => gv p.1 p.2 k.1 k.2).length
theorem cnt_nil (k : Int × Int) : cnt [] k = 0 := rfl
theorem cnt_take (l : List (Int × Int)) (k : Int × Int) (j : Nat) (hj : j < l.length) : cnt (l.take (j + 1)) k = cnt (l.take j) k + (if gv (l.getD j (0, 0)).1 (l.getD j (0, 0)).2 k.1 k.2 then 1 else 0) := by
  have e : l.take (j + 1) = l.take j ++ [l.getD j (0, 0)] := by
    rw [List.take_add_one]; simp [List.getElem?_eq_getElem hj]
  rw [e]
  generalize l.getD j (0, 0) = x
  simp only [cnt, List.filter_append, List.length_append]
  cases h : gv x.1 x.2 k.1 k.2 <;> simp [h]
theorem cnt_le (l : List (Int × Int)) (k : Int × Int) (j : Nat) : cnt (l.take j) k ≤ j := by
  have h1 := List.length_filter_le (fun p : Int × Int => gv p.1 p.2 k.1 k.2) (l.take j)
  have h2 : (l.take j).length ≤ j := List.length_take_le _ _
  unfold cnt; omega
theorem gv_base {b s c t : Int} (h : gv b s c t = true) : b = c ∧ s ≤ t ∧ gd c t = true := by
  simp [gv] at h; exact ⟨h.2.2.1, h.2.2.2, h.2.1⟩
theorem one_at_most (k : Int × Int) : ∀ (l : List (Int × Int)), l.Pairwise (fun p q => p.1 < q.1) → cnt l k ≤ 1
  | [], _ => by simp [cnt]
  | x :: l, h => by
    obtain ⟨hx, hl⟩ := List.pairwise_cons.1 h
    have ih := one_at_most k l hl
    by_cases hg : gv x.1 x.2 k.1 k.2 = true
    · have e : (l.filter fun p => gv p.1 p.2 k.1 k.2) = [] := by
        rw [List.filter_eq_nil_iff]
        intro p hp hgp
        have := hx p hp
        have := (gv_base hg).1
        have := (gv_base hgp).1
        omega
      simp [cnt, hg, e]
    · simp only [cnt, List.filter_cons, hg] at ih ⊢
      simpa using ih
theorem cnt_lst {ks : List (Int × Int)} {k : Int × Int} (hk : k ∈ ks) : cnt (lst ks) k = if gd k.1 k.2 then 1 else 0 := by
  have h1 := one_at_most k (lst ks) (sorted_lst ks)
  by_cases hg : Gd k.1 k.2
  · rw [gd_yes hg]
    obtain ⟨b, t⟩ := k
    obtain ⟨s, hs⟩ := (fo_spec ks).2 b t hk hg
    have hm := (fo_iff ks b s).1 hs
    have hle := hm.2.2 t hk hg
    have hin : (b, s) ∈ (lst ks).filter fun p => gv p.1 p.2 b t := by
      rw [List.mem_filter]
      refine ⟨mem_lst.2 hm, ?_⟩
      have g1 := gd_yes hm.2.1
      have g2 := gd_yes hg
      simp [gv, g1, hle] at g2 ⊢
      exact g2
    have : 0 < cnt (lst ks) (b, t) := List.length_pos_of_mem hin
    simp; omega
  · rw [gd_no hg]
    have e : (lst ks).filter (fun p => gv p.1 p.2 k.1 k.2) = [] := by
      rw [List.filter_eq_nil_iff]
      intro p _ hgp
      have := (gv_base hgp).2.2
      rw [gd_no hg] at this; cases this
    simp [cnt, e]
theorem lst_up {ks : List (Int × Int)} {i : Nat} (hi : i + 1 < (lst ks).length) : ((lst ks).getD i (0, 0)).1 < ((lst ks).getD (i + 1) (0, 0)).1 := by
  have := List.pairwise_iff_getElem.1 (sorted_lst ks) i (i + 1) (by omega) hi (by omega)
  simpa [List.getD, List.getElem?_eq_getElem hi, List.getElem?_eq_getElem (show i < (lst ks).length by omega)] using this
theorem lst_good {ks : List (Int × Int)} {i : Nat} (hi : i < (lst ks).length) : Gd ((lst ks).getD i (0, 0)).1 ((lst ks).getD i (0, 0)).2 := by
  have : (lst ks).getD i (0, 0) ∈ lst ks := by rw [List.getD, List.getElem?_eq_getElem hi]; exact List.getElem_mem hi
  exact good_lst this
theorem below_grown {w w' : World} (h : Below w.heap.size w w') : w.grownBy w' none := ⟨h.os, h.tape, h.output, h.size, fun i hi _ => h.block i hi⟩
end Go.Proofs.Ytpofjkjcbflloab
