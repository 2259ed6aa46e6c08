/- KnowLeast's reason: what is had of a row of calls is told by one of them, or is the load of a box of one of them whose under is had without that call. -/
import Derived.Test.YtompgoaogomoaaaKnWo
namespace Go.Proofs.Ytompgoaogomoaaa.Kn
open Go.RowKit Go.Maps
open Rt (Gd gd gd_yes gd_no rGood_any)
set_option linter.unusedVariables false
set_option linter.unusedSimpArgs false

theorem at_of_mem {O : List Op9} {o : Op9} (h : o ∈ O) : ∃ i, i < O.length ∧ O.getD i zO = o := by
  obtain ⟨t, ht, rfl⟩ := List.getElem_of_mem h
  exact ⟨t, ht, by rw [List.getD_eq_getElem?_getD, List.getElem?_eq_getElem ht]; rfl⟩
theorem least_at {O : List Op9} {x : K2} (h : HadL O x) (hx : x.1 < 32768) : ∃ i, i < O.length ∧
    (((O.getD i zO).1 = 1 ∧ Gd (O.getD i zO).2.1.1.1 (O.getD i zO).2.1.1.2 ∧ (O.getD i zO).2.1.1.1 = x.1 ∧ (O.getD i zO).2.1.1.2 ≤ x.2) ∨
      ((O.getD i zO).1 = 2 ∧ gb (O.getD i zO).2.1 = true ∧ (O.getD i zO).2.1.2.1 = x.1 ∧ (O.getD i zO).2.1.2.2 ≤ x.2 ∧ HadL (dropAt O (i : Int) O.length) (O.getD i zO).2.1.1)) := by
  rcases had_without h hx with ⟨s, h1, h2, h3⟩ | ⟨u, s, h1, h2, h3, h4⟩
  · obtain ⟨o, ho, k1, k2⟩ := mem_told.1 h1
    obtain ⟨i, hi, e⟩ := at_of_mem ho
    refine ⟨i, hi, .inl ?_⟩
    rw [e, k2]
    exact ⟨k1, h2, rfl, h3⟩
  · obtain ⟨o, ho, k1, k2⟩ := mem_box.1 h1
    obtain ⟨i, hi, e⟩ := at_of_mem ho
    refine ⟨i, hi, .inr ?_⟩
    rw [e, k2]
    refine ⟨k1, gb_gd.2 ⟨had_good h4, h2⟩, rfl, h3, ?_⟩
    refine had_sub (fun k hg hk => ?_) (fun a b hm _ _ => ?_) h4
    · obtain ⟨o', ho', e1, e2⟩ := mem_told.1 hk
      obtain ⟨j, hj, e'⟩ := at_of_mem ho'
      refine had_told hg (mem_told.2 ⟨o', mem_dropAt.2 ⟨j, hj, fun hij => ?_, e'⟩, e1, e2⟩)
      have hij : j = i := by omega
      subst hij
      rw [e] at e'
      rw [← e', k1] at e1
      exact absurd e1 (by decide)
    · obtain ⟨hm1, hm2⟩ := List.mem_filter.1 hm
      obtain ⟨o', ho', e1, e2⟩ := mem_box.1 hm1
      obtain ⟨j, hj, e'⟩ := at_of_mem ho'
      refine mem_box.2 ⟨o', mem_dropAt.2 ⟨j, hj, fun hij => ?_, e'⟩, e1, e2⟩
      have hij : j = i := by omega
      subst hij
      rw [e] at e'
      rw [← e', k2] at e2
      simp [e2] at hm2
end Go.Proofs.Ytompgoaogomoaaa.Kn
