/- The sort's order on keys, and what a sorted permutation of the least keys is. -/
import Derived.Test.YtompgoaogomoaaaKlMath
import Derived.Test.YtompgoaogomoaaaKeyC
import Derived.Sort.Statements
import Derived.Shelf.SlSortCmp.Insertion
namespace Go.Proofs.Ytompgoaogomoaaa.Rt
open Go.Sort

def cmpK (x y : Int × Int) : Int := cm x.1 x.2 y.1 y.2
theorem ltK (x y : Int × Int) : ltOf cmpK x y = decide (x.1 < y.1 ∨ x.1 = y.1 ∧ x.2 < y.2) := by
  unfold ltOf cmpK cm
  rw [Bool.eq_iff_iff, decide_eq_true_iff, decide_eq_true_iff]
  repeat' split
  all_goals omega
theorem swoK : SWO (ltOf cmpK) where
  irrefl x := by rw [ltK]; simp
  trans x y z h1 h2 := by rw [ltK] at *; simp at *; omega
  ntrans x y z h1 h2 := by rw [ltK] at *; simp at *; omega
theorem totK (x y : Int × Int) (h1 : ltOf cmpK x y = false) (h2 : ltOf cmpK y x = false) : x = y := by
  rw [ltK] at *; simp at *
  obtain ⟨a, b⟩ := x
  obtain ⟨c, d⟩ := y
  simp at *
  omega
theorem sorted_is {L : List (Int × Int)} {F : Int → Option Int} (hp : L.Perm (lstf F)) : (L.mergeSort fun x y => !(ltOf cmpK) y x) = lstf F := by
  have hperm := (List.mergeSort_perm L fun x y => !(ltOf cmpK) y x).trans hp
  have hs : (L.mergeSort fun x y => !(ltOf cmpK) y x).Pairwise (fun x y => (!(ltOf cmpK) y x) = true) := by
    refine List.pairwise_mergeSort ?_ ?_ L
    · intro a b c h1 h2; rw [ltK] at *; simp at *; omega
    · intro a b; rw [ltK, ltK]; simp; omega
  have hnd : (L.mergeSort fun x y => !(ltOf cmpK) y x).Nodup := hperm.nodup_iff.2 ((sorted_lpart F 65535).imp fun {p q} h e => by subst e; omega)
  refine rising_ext ?_ (sorted_lpart F 65535) (fun k => hperm.mem_iff)
  refine (hs.and hnd).imp_of_mem ?_
  rintro ⟨a, s⟩ ⟨b, t⟩ ha hb ⟨h1, h2⟩
  rw [ltK] at h1
  have ha' := (mem_lpart.1 (hperm.mem_iff.1 ha)).2.2
  have hb' := (mem_lpart.1 (hperm.mem_iff.1 hb)).2.2
  simp at h1 ⊢
  by_cases e : a = b
  · subst e; rw [ha'] at hb'; simp at hb'; subst hb'; exact absurd rfl h2
  · omega
end Go.Proofs.Ytompgoaogomoaaa.Rt
