/- A batch of right people, picked out of numbers. -/
import Derived.Test.YtieagbjempndnaaDoorRsMath4
namespace Go.Proofs.YtieagbjempndnaaDoor
set_option linter.unusedVariables false
set_option linter.unusedSimpArgs false

def who (n : Int) : Int := n % 256
theorem who_wok (n : Int) : wok (who n) = true := by
  unfold wok who
  have h1 : 0 ≤ n % 256 := Int.emod_nonneg _ (by decide)
  have h2 : n % 256 < 256 := Int.emod_lt_of_pos _ (by decide)
  simp [h1, h2]
def pick1 (f : Nat → En) (lv : Bool) (bse acc : List Int) (n : Int) : List Int := if decide (who n ∈ bse ++ acc) then acc else if decide (on f (who n) = lv) then acc ++ [who n] else acc
def pick (f : Nat → En) (lv : Bool) (bse l : List Int) : List Int := l.foldl (pick1 f lv bse) []
theorem pick_snoc (f : Nat → En) (lv : Bool) (bse l : List Int) (n : Int) : pick f lv bse (l ++ [n]) = pick1 f lv bse (pick f lv bse l) n := by simp [pick]
theorem pick1_len (f : Nat → En) (lv : Bool) (bse acc : List Int) (n : Int) : (pick1 f lv bse acc n).length ≤ acc.length + 1 := by
  unfold pick1
  split
  · omega
  · split
    · simp
    · omega
theorem take_snoc {l : List Int} {k : Nat} (h : k < l.length) : l.take (k + 1) = l.take k ++ [l.getD k 0] := by
  rw [List.take_succ_eq_append_getElem h]
  simp [List.getD, h]
theorem pick_len (f : Nat → En) (lv : Bool) (bse l : List Int) : ∀ k, k ≤ l.length → (pick f lv bse (l.take k)).length ≤ k
  | 0, _ => by simp [pick]
  | k + 1, hk => by
    rw [take_snoc (by omega), pick_snoc]
    have h1 := pick1_len f lv bse (pick f lv bse (l.take k)) (l.getD k 0)
    have h2 := pick_len f lv bse l k (by omega)
    omega
/- Each of them stands where it may stand. -/
def Gd (f : Nat → En) (lv : Bool) (bse acc : List Int) : Prop := ∀ k, k < acc.length → er f lv (bse ++ acc.take k) (acc.getD k 0) = 0
theorem Gd.snoc {f : Nat → En} {lv : Bool} {bse acc : List Int} (h : Gd f lv bse acc) {x : Int} (h1 : wok x = true) (h2 : x ∉ bse ++ acc) (h3 : on f x = lv) : Gd f lv bse (acc ++ [x]) := fun k hk => by
  rw [List.length_append, List.length_singleton] at hk
  by_cases e : k = acc.length
  · subst e
    rw [List.take_left, List.getD_eq_getElem?_getD, List.getElem?_append_right (Nat.le_refl _)]
    simp only [Nat.sub_self, List.getElem?_cons_zero, Option.getD_some]
    exact er_zero.2 ⟨h1, h2, h3⟩
  · have hk2 : k < acc.length := by omega
    rw [List.take_append_of_le_length (by omega), List.getD_eq_getElem?_getD, List.getElem?_append_left hk2, ← List.getD_eq_getElem?_getD]
    exact h k hk2
theorem Gd.pick1 {f : Nat → En} {lv : Bool} {bse acc : List Int} (h : Gd f lv bse acc) (n : Int) : Gd f lv bse (pick1 f lv bse acc n) := by
  unfold Go.Proofs.YtieagbjempndnaaDoor.pick1
  by_cases h1 : who n ∈ bse ++ acc
  · rw [decide_eq_true h1, if_pos rfl]; exact h
  · rw [decide_eq_false h1, if_neg (by simp)]
    by_cases h2 : on f (who n) = lv
    · rw [decide_eq_true h2, if_pos rfl]
      exact h.snoc (who_wok n) h1 h2
    · rw [decide_eq_false h2, if_neg (by simp)]; exact h
theorem pick_gd (f : Nat → En) (lv : Bool) (bse l : List Int) : ∀ k, k ≤ l.length → Gd f lv bse (pick f lv bse (l.take k))
  | 0, _ => fun k hk => by simp [pick] at hk
  | k + 1, hk => by
    rw [take_snoc (by omega), pick_snoc]
    exact (pick_gd f lv bse l k (by omega)).pick1 _
theorem pick_fr (f : Nat → En) (lv : Bool) (bse l : List Int) : fr' f lv bse (pick f lv bse l) = 0 := by
  have h := pick_gd f lv bse l l.length (Nat.le_refl _)
  rw [List.take_length] at h
  exact fr_of h
theorem pick_ft {f : Nat → En} (h : chk f = true) (l j : List Int) : ft f (pick f true [] l) (pick f false (pick f true [] l) j) = if (pick f false (pick f true [] l) j).length > 64 - cnt f + (pick f true [] l).length then 18 else 0 := ft_full h (pick_fr f true [] l) (pick_fr f false _ j)
/- The machine's reckoning of a person's number. -/
theorem who_conv (n : Int) (h : (Lit.int .i64 n).wf = true) : (IntKind.u64.wrap n).tmod 256 = who n ∧ IntKind.i64.wrap (who n) = who n := by
  have h0 : 0 ≤ IntKind.u64.wrap n := by simp only [IntKind.wrap_u64]; omega
  have h1 : 0 ≤ n % 256 := Int.emod_nonneg _ (by decide)
  have h2 : n % 256 < 256 := Int.emod_lt_of_pos _ (by decide)
  refine ⟨?_, ?_⟩
  · rw [Int.tmod_eq_emod_of_nonneg h0]
    unfold who
    simp only [IntKind.wrap_u64]
    omega
  · unfold who
    simp only [IntKind.wrap, IntKind.bits, IntKind.signed]
    simp
    omega
end Go.Proofs.YtieagbjempndnaaDoor
