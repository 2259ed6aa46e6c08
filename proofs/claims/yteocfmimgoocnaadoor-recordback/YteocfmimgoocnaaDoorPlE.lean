/- Contracts: the document's Replaced, its Next of trees. -/
import Derived.Test.YteocfmimgoocnaaDoorPlJ4
import Derived.Test.YteocfmimgoocnaaDoorTrJ
import Derived.Test.YteocfmimgoocnaaDoorRsJ5
import Derived.Test.YteocfmimgoocnaaDoorShK
namespace Go.Proofs.YteocfmimgoocnaaDoor
open Go.RowKit Go.Maps Go.Great
open Rt (Ky zK kcs KsAt trE trK cu)
open Rs (En zE rcs RoAt tkn RdI RdS ps ft fnd FitOk evs evl mvE mvR mvL mvJ)
open Sh (belB lef)
set_option linter.unusedVariables false
set_option linter.unusedSimpArgs false

theorem mkW_yes {p : Nat → Bool} {k : Nat} (h : p k = true) : mkW p (k + 1) = mkW p k + 2 ^ k := by rw [mkW, h, if_pos rfl]
theorem mkW_no {p : Nat → Bool} {k : Nat} (h : p k = false) : mkW p (k + 1) = mkW p k := by rw [mkW, h]; rfl
theorem rpl_yes {l : List (Int × Int)} {v i : Nat} (hi : i < l.length) (h : belB (v : Int) (lef (l.getD i (0, 0)).2) = true) : rpl l v = true := by
  unfold rpl
  rw [List.any_eq_true]
  refine ⟨l.getD i (0, 0), ?_, h⟩
  rw [List.getD_eq_getElem?_getD, List.getElem?_eq_getElem hi]
  exact List.getElem_mem _
theorem rpl_no {l : List (Int × Int)} {v : Nat} (h : ∀ i, i < l.length → belB (v : Int) (lef (l.getD i (0, 0)).2) = false) : rpl l v = false := by
  rw [Bool.eq_false_iff]
  intro hc
  unfold rpl at hc
  rw [List.any_eq_true] at hc
  obtain ⟨p, hp, h2⟩ := hc
  obtain ⟨i, hi, e⟩ := List.mem_iff_getElem.1 hp
  have := h i hi
  rw [List.getD_eq_getElem?_getD, List.getElem?_eq_getElem hi, Option.getD_some, e, h2] at this
  cases this
theorem pow21 : ∀ k : Fin 22, (2 : Nat) ^ k.val ≤ 2097152 := by decide +kernel
end Go.Proofs.YteocfmimgoocnaaDoor
