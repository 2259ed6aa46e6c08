/- Lists of pieces made of parts of another: appended, exchanged; which of them are whole. -/
import Derived.Test.YtoohoapbcdekgaaFrP
import Derived.Test.YtoohoapbcdekgaaFrJ
namespace Go.Proofs.Ytoohoapbcdekgaa
open Go.RowKit Go.Maps
set_option linter.unusedVariables false
set_option linter.unusedSimpArgs false

theorem RdP.newsAny {w : World} {ad : Addr} {M : List Pc} (h : RdP w (some ad) M) : ∀ j u, (cellsP M)[j]? = some u → w.cell? (ad.add j) = some u := by
  by_cases h0 : M = []
  · subst h0; intro j u hu; simp [cellsP] at hu
  · obtain ⟨b, o, e, _⟩ := h.spot h0
    cases e
    exact h.news
theorem own_some {w : World} {B e z m : Nat} {v : Value} {xs : List Value} (h : w.ownsRow B e z v m xs) (hv : v ≠ .slice none 0 0) : ∃ g cap, v = .slice (some ⟨g, 0, none⟩) m cap := by
  rcases h.2 with ⟨h0, _⟩ | ⟨g, cap, cur, h1, _⟩
  · exact absurd h0 hv
  · exact ⟨g, cap, h1⟩
theorem step_part {ops : Array Oper} {o : Oper} {a : Act} {w : World} {K : Act → World → Prop} {Q : Exit → Act → World → Prop} {E : Prop} (hgd : o.guard = none) (s x : Operand)
    (ho : o.op = .call { callee := .builtin .append, args := #[s, x], argTypes := #[ 37, 37 ] })
    (base : Nat) (v : Value) (m0 : Nat) (L : List Pc) (hs : a.eval s = v) (hv : v ≠ .slice none 0 0) (hown : w.ownsRow base 23 4 v m0 (cellsP L))
    (ad : Addr) (m c : Nat) (M : List Pc) (hM : M.length = m) (hx : a.eval x = .slice (some ad) m c) (hnews : RdP w (some ad) M) (hsz : m0 + m ≤ 100000) (hbase : base ≤ w.heap.size)
    (h : ∀ g cap w', w'.ownsRow base 23 4 (.slice (some ⟨g, 0, none⟩) (m0 + m) cap) (m0 + m) (cellsP (L ++ M)) → w.grownBy w' v.ownBlock → K (a.put o.dst (.slice (some ⟨g, 0, none⟩) (m0 + m) cap)) w') :
    if Region.wanted o (yielded ops a.tmps) = true then Oper.wp Try.prog o a w K Q else E := by
  obtain ⟨i0, hi, hz0, hz1, hz2⟩ := info_parts infoP
  have hw : Region.wanted o (yielded ops a.tmps) = true := by simp [Region.wanted, hgd]
  rw [if_pos hw]
  refine wp_append_own w s x 37 ho base 23 i0 _ 4 40 Try.underlying37 hi hz0 hz1 hz2 rfl (by omega) v m0 (cellsP L) hs hown ad m c (cellsP M) hx (by rw [cellsP_length, hM]) hnews.newsAny (cellsP_one M) (by unfold maxLen; omega) (by omega) hbase ?_
  intro v' w' h2 h3 h4
  have hne : v' ≠ .slice none 0 0 := fun e => hv (h4.1 e).1
  obtain ⟨g, cap, rfl⟩ := own_some h2 hne
  rw [← cellsP_append] at h2
  exact h g cap w' h2 h3
theorem cellsP_set (L : List Pc) (x : Pc) : ∀ i, i < L.length → ((((cellsP L).set (i * 4) (.int .i64 x.q)).set (i * 4 + 1) (.int .i64 x.p)).set (i * 4 + 2) (.int .i64 x.n)).set (i * 4 + 3) (.string x.d) = cellsP (L.set i x) := by
  induction L with
  | nil => intro i hi; cases hi
  | cons y L ih =>
    intro i hi
    cases i with
    | zero => simp [cellsP_cons]
    | succ i =>
      have := ih i (by simpa using hi)
      rw [cellsP_cons, show (i + 1) * 4 = i * 4 + 1 + 1 + 1 + 1 by omega]
      simp only [List.set_cons_succ, List.set_cons_zero]
      rw [this]
      rfl
theorem getD_mem {l : List Pc} {i : Nat} (h : i < l.length) : l.getD i pc0 ∈ l := by
  rw [← get_getD l i h pc0]; exact List.getElem_mem h
theorem mem_getD {l : List Pc} {x : Pc} (h : x ∈ l) : ∃ i, i < l.length ∧ l.getD i pc0 = x := by
  obtain ⟨i, hi, e⟩ := List.mem_iff_getElem.1 h
  exact ⟨i, hi, by rw [← get_getD l i hi pc0]; exact e⟩
theorem not_wh_len {P l : List Pc} (hP : Wh P) (hsub : ∀ x ∈ l, x ∈ P) (hne : l ≠ []) (hlen : l.length ≠ P.length) : ¬ Wh l := fun hw => by
  have h0 : 0 < l.length := List.length_pos_iff.2 hne
  obtain ⟨-, -, -, e⟩ := hw.each 0 h0
  obtain ⟨i, hi, ei⟩ := mem_getD (hsub _ (getD_mem h0))
  obtain ⟨-, -, -, e'⟩ := hP.each i hi
  rw [ei] at e'
  rw [e'] at e
  omega
theorem wh_less {P : List Pc} (hP : Wh P) (A : Nat) (hA : A < P.length) (h2 : 2 ≤ P.length) : ¬ Wh (P.take A ++ P.drop (A + 1)) := by
  have hl : (P.take A ++ P.drop (A + 1)).length = P.length - 1 := by simp; omega
  refine not_wh_len hP ?_ (fun e => by have := congrArg List.length e; rw [hl] at this; simp at this; omega) (by rw [hl]; omega)
  intro x hx
  rcases List.mem_append.1 hx with h | h
  · exact List.mem_of_mem_take h
  · exact List.mem_of_mem_drop h
theorem wh_more {P : List Pc} (hP : Wh P) (A : Nat) (hA : A < P.length) : ¬ Wh (P.take (A + 1) ++ P.drop A) := by
  have hl : (P.take (A + 1) ++ P.drop A).length = P.length + 1 := by simp; omega
  refine not_wh_len hP ?_ (fun e => by have := congrArg List.length e; rw [hl] at this; simp at this) (by rw [hl]; omega)
  intro x hx
  rcases List.mem_append.1 hx with h | h
  · exact List.mem_of_mem_take h
  · exact List.mem_of_mem_drop h
theorem swap_same {P : List Pc} (A : Nat) (hA : A < P.length) : (P.set A (P.getD A pc0)).set A (P.getD A pc0) = P := by
  rw [List.set_set, ← get_getD P A hA pc0, List.set_getElem_self]
theorem wh_swap {P : List Pc} (hP : Wh P) (A B : Nat) (hA : A < P.length) (hB : B < P.length) (hne : A ≠ B) : ¬ Wh ((P.set A (P.getD B pc0)).set B (P.getD A pc0)) := fun hw => by
  obtain ⟨-, -, e, -⟩ := hw.each A (by simp; exact hA)
  have g : ((P.set A (P.getD B pc0)).set B (P.getD A pc0)).getD A pc0 = P.getD B pc0 := by
    rw [List.getD_eq_getElem?_getD, List.getElem?_set_ne (fun h => hne h.symm), List.getElem?_set_self hA]
    rfl
  rw [g] at e
  obtain ⟨-, -, e', -⟩ := hP.each B hB
  rw [e'] at e
  omega
theorem RdP.part {w : World} {b o : Nat} {l : List Pc} (h : RdP w (some ⟨b, o, none⟩) l) (k : Nat) : RdP w (some ⟨b, o + k * 4, none⟩) (l.drop k) := fun i hi => by
  rw [List.length_drop] at hi
  obtain ⟨b', o', e, x⟩ := h (k + i) (by omega)
  obtain ⟨eb, eo⟩ : b = b' ∧ o = o' := by simpa using e
  rw [← eb, ← eo] at x
  have g : (l.drop k).getD i pc0 = l.getD (k + i) pc0 := by simp [List.getD_eq_getElem?_getD]
  refine ⟨b, o + k * 4, rfl, ?_⟩
  rw [g, show o + k * 4 + i * 4 = o + (k + i) * 4 by omega]
  exact x
theorem RdP.front {w : World} {a : Option Addr} {l : List Pc} (h : RdP w a l) (k : Nat) : RdP w a (l.take k) := fun i hi => by
  rw [List.length_take] at hi
  obtain ⟨b, o, e, x⟩ := h i (by omega)
  have g : (l.take k).getD i pc0 = l.getD i pc0 := by
    rw [List.getD_eq_getElem?_getD, List.getD_eq_getElem?_getD, List.getElem?_take_of_lt (by omega)]
  exact ⟨b, o, e, by rw [g]; exact x⟩
end Go.Proofs.Ytoohoapbcdekgaa
