/- Batches on plain data: which person is refused, and why. -/
import Derived.Test.YtieagbjempndnabDoorRsMath
namespace Go.Proofs.YtieagbjempndnabDoor
set_option linter.unusedVariables false
set_option linter.unusedSimpArgs false

theorem fd_range (f : Nat → En) (x : Int) : ∀ (n k : Nat), fd f x k n = -1 ∨ ∃ j : Nat, fd f x k n = (j : Int) ∧ k ≤ j ∧ j < k + n ∧ at' f x j = true ∧ ∀ i, k ≤ i → i < j → at' f x i = false
  | 0, k => .inl rfl
  | n + 1, k => by
    unfold fd
    cases h : at' f x k with
    | true => exact .inr ⟨k, rfl, Nat.le_refl _, by omega, h, fun i h1 h2 => by omega⟩
    | false =>
      rcases fd_range f x n (k + 1) with e | ⟨j, e, h1, h2, h3, h4⟩
      · exact .inl (by simpa using e)
      · refine .inr ⟨j, by simpa using e, by omega, by omega, h3, fun i g1 g2 => ?_⟩
        rcases Nat.lt_or_ge k i with g | g
        · exact h4 i g g2
        · obtain rfl : i = k := by omega
          exact h
theorem fnd_range (f : Nat → En) (x : Int) : fnd f x = -1 ∨ ∃ j : Nat, fnd f x = (j : Int) ∧ j < 64 ∧ at' f x j = true ∧ ∀ i, i < j → at' f x i = false := by
  rcases fd_range f x 64 0 with e | ⟨j, e, h1, h2, h3, h4⟩
  · exact .inl e
  · exact .inr ⟨j, e, by omega, h3, fun i hi => h4 i (by omega) hi⟩
theorem fd_none {f : Nat → En} {x : Int} : ∀ (n k : Nat), fd f x k n = -1 ↔ ∀ i, k ≤ i → i < k + n → at' f x i = false
  | 0, k => ⟨fun _ i h1 h2 => by omega, fun _ => rfl⟩
  | n + 1, k => by
    unfold fd
    cases h : at' f x k with
    | true =>
      refine ⟨fun e => ?_, fun e => ?_⟩
      · simp at e
      · rw [e k (Nat.le_refl _) (by omega)] at h; cases h
    | false =>
      simp only [Bool.false_eq_true, if_false]
      rw [fd_none n (k + 1)]
      refine ⟨fun e i h1 h2 => ?_, fun e i h1 h2 => e i (by omega) (by omega)⟩
      rcases Nat.lt_or_ge k i with g | g
      · exact e i g (by omega)
      · obtain rfl : i = k := by omega
        exact h
theorem fnd_none {f : Nat → En} {x : Int} : fnd f x = -1 ↔ ∀ i, i < 64 → at' f x i = false := by
  unfold fnd
  rw [fd_none 64 0]
  exact ⟨fun h i hi => h i (by omega) (by omega), fun h i _ hi => h i (by omega)⟩
/- Is the person on? -/
def on (f : Nat → En) (x : Int) : Bool := decide (0 ≤ fnd f x)
theorem on_ne (f : Nat → En) (x : Int) : on f x = !decide (fnd f x = -1) := by
  unfold on
  rcases fnd_range f x with e | ⟨j, e, _⟩
  · rw [e]; rfl
  · rw [e]
    have h1 : (0 : Int) ≤ (j : Int) := by omega
    have h2 : ¬ ((j : Int) = -1) := by omega
    simp [h1, h2]
/- The error of a person of a batch, behind those that stand ahead of it. -/
def er (f : Nat → En) (lv : Bool) (pre : List Int) (x : Int) : Int :=
  if wok x then (if decide (x ∈ pre) then 15 else if lv then (if on f x then 0 else 16) else (if on f x then 17 else 0)) else 14
def fr' (f : Nat → En) (lv : Bool) : List Int → List Int → Int
  | _, [] => 0
  | pre, x :: r => if er f lv pre x = 0 then fr' f lv (pre ++ [x]) r else er f lv pre x
theorem fr_step (f : Nat → En) (lv : Bool) (p L : List Int) {k : Nat} (h : k < L.length) :
    fr' f lv (p ++ L.take k) (L.drop k) = if er f lv (p ++ L.take k) (L.getD k 0) = 0 then fr' f lv (p ++ L.take (k + 1)) (L.drop (k + 1)) else er f lv (p ++ L.take k) (L.getD k 0) := by
  have e1 : L.getD k 0 = L[k] := by simp [List.getD, h]
  rw [List.drop_eq_getElem_cons h, fr', e1, List.take_succ_eq_append_getElem h, List.append_assoc]
theorem fr_end (f : Nat → En) (lv : Bool) (p L : List Int) : fr' f lv (p ++ L.take L.length) (L.drop L.length) = 0 := by simp [fr']
/- Does the batch fit? -/
def cnt (f : Nat → En) : Nat := (bl (tk f)).length
theorem cnt_le (f : Nat → En) : cnt f ≤ 64 := bl_len _
theorem cnt_nt (f : Nat → En) : (bl (nt (tk f))).length = 64 - cnt f := by have := bl_both (tk_lt f); unfold cnt; omega
def ft (f : Nat → En) (L J : List Int) : Int :=
  if chk f then
    if fr' f true [] L = 0 then
      if fr' f false L J = 0 then
        if J.length > 64 - cnt f + L.length then 18 else 0
      else fr' f false L J
    else fr' f true [] L
  else 31
theorem ft_tree {f : Nat → En} (L J : List Int) (h : chk f = false) : ft f L J = 31 := by unfold ft; rw [h]; rfl
theorem ft_left {f : Nat → En} {L : List Int} (J : List Int) (h : chk f = true) (h1 : fr' f true [] L ≠ 0) : ft f L J = fr' f true [] L := by unfold ft; rw [h, if_pos rfl, if_neg h1]
theorem ft_join {f : Nat → En} {L J : List Int} (h : chk f = true) (h1 : fr' f true [] L = 0) (h2 : fr' f false L J ≠ 0) : ft f L J = fr' f false L J := by unfold ft; rw [h, if_pos rfl, if_pos h1, if_neg h2]
theorem ft_full {f : Nat → En} {L J : List Int} (h : chk f = true) (h1 : fr' f true [] L = 0) (h2 : fr' f false L J = 0) : ft f L J = if J.length > 64 - cnt f + L.length then 18 else 0 := by unfold ft; rw [h, if_pos rfl, if_pos h1, if_pos h2]
theorem chkE_tt {f : Nat → En} (h : chk f = true) : chkE f = 0 := by unfold chkE; rw [h]; rfl
theorem chkE_ff {f : Nat → En} (h : chk f = false) : chkE f = 31 := by unfold chkE; rw [h]; rfl
/- The marks of those who have been seen. -/
def sns (l : List Int) : Array Value := Array.ofFn (n := 256) fun i => .bool (decide ((i.1 : Int) ∈ l))
@[simp] theorem sns_size (l : List Int) : (sns l).size = 256 := by simp [sns]
theorem sns_get (l : List Int) (i : Nat) (h : i < 256) : (sns l)[i]? = some (.bool (decide ((i : Int) ∈ l))) := by
  rw [Array.getElem?_eq_getElem (by simpa using h)]
  simp [sns]
theorem sns_set (l : List Int) (k : Nat) (hk : k < 256) : (sns l).setIfInBounds k (.bool true) = sns (l ++ [(k : Int)]) := by
  apply Array.ext
  · simp
  · intro i h1 h2
    simp at h1
    rw [Array.getElem_setIfInBounds (by simpa using h1)]
    simp only [sns, Array.getElem_ofFn]
    by_cases h : k = i
    · subst h; simp
    · rw [if_neg h]
      congr 2
      simp only [List.mem_append, List.mem_singleton, eq_iff_iff]
      constructor
      · exact fun h => .inl h
      · rintro (h1 | h1)
        · exact h1
        · exact absurd h1 (by omega)
theorem sns_one (l : List Int) : (sns l).all (·.oneCell') = true := by
  rw [Array.all_eq_true]
  intro i h
  simp [sns, Value.oneCell']
theorem wok_nat {x : Int} (h : wok x = true) : ∃ k : Nat, x = (k : Int) ∧ k < 256 := by
  simp only [wok, Bool.and_eq_true, decide_eq_true_eq] at h
  exact ⟨x.toNat, by omega, by omega⟩
end Go.Proofs.YtieagbjempndnabDoor
