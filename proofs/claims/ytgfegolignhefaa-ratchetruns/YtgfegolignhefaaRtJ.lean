/- Rows of three integers; n turns that replace nothing, on plain data. -/
import Derived.Test.YtgfegolignhefaaRtI
namespace Go.Proofs.Ytgfegolignhefaa
open Go.RowKit
set_option linter.unusedVariables false
set_option linter.unusedSimpArgs false

def ics (a : Nat → Int) : Array Value := Array.ofFn (n := 3) fun i => .int .i64 (a i.1)
@[simp] theorem ics_size (a : Nat → Int) : (ics a).size = 3 := by simp [ics]
theorem ics_get (a : Nat → Int) (i : Nat) (h : i < 3) : (ics a)[i]? = some (.int .i64 (a i)) := by
  rw [Array.getElem?_eq_getElem (by simpa using h)]
  simp [ics]
theorem ics_congr {a b : Nat → Int} (h : ∀ i, i < 3 → a i = b i) : ics a = ics b := by
  unfold ics
  congr 1
  funext i
  rw [h i.1 i.2]
def iup (a : Nat → Int) (k : Nat) (x : Int) : Nat → Int := fun i => if i = k then x else a i
theorem ics_set (a : Nat → Int) (k : Nat) (x : Int) : (ics a).setIfInBounds k (.int .i64 x) = ics (iup a k x) := by
  apply Array.ext
  · simp
  · intro i h1 h2
    simp at h1
    rw [Array.getElem_setIfInBounds (by simpa using h1)]
    simp only [ics, Array.getElem_ofFn, iup]
    by_cases h : k = i
    · subst h; simp
    · rw [if_neg h, if_neg (fun e => h e.symm)]
def IaAt (w : World) (B : Nat) (a : Nat → Int) : Prop := w.heap[B]? = some (.cells (ics a) 45 (0, 0))
theorem IaAt.lt {w : World} {B : Nat} {a : Nat → Int} (h : IaAt w B a) : B < w.heap.size := (Array.getElem?_eq_some_iff.1 h).1
theorem IaAt.later {w w' : World} {B : Nat} {a : Nat → Int} (h : IaAt w B a) (hb : Below w.heap.size w w') : IaAt w' B a := (hb.block B h.lt).trans h
theorem IaAt.new (w : World) (a : Nat → Int) : IaAt (w.alloc (.cells (ics a) 45)) w.heap.size a := heap_alloc_last w _
theorem IaAt.cell {w : World} {B : Nat} {a : Nat → Int} (h : IaAt w B a) (k : Nat) (hk : k < 3) : w.cell? ⟨B, k, none⟩ = some (.int .i64 (a k)) := (cell_of_row w B _ _ _ _ h).trans (ics_get a k hk)
theorem IaAt.set {w : World} {B : Nat} {a : Nat → Int} (h : IaAt w B a) (k : Nat) (x : Int) : IaAt (w.setCell ⟨B, k, none⟩ (.int .i64 x)) B (iup a k x) := by
  have := row_setCell h k (.int .i64 x)
  rw [ics_set] at this
  exact this
theorem IaAt.congr {w : World} {B : Nat} {a b : Nat → Int} (h : IaAt w B a) (e : ics a = ics b) : IaAt w B b := by unfold IaAt at *; rw [← e]; exact h
theorem alloc_ia (w : World) (a : Nat → Int) : Below w.heap.size w (w.alloc (.cells (ics a) 45)) := (Below.refl _ w).alloc (Nat.le_refl _) _
theorem zero3 : (#[Value.int .i64 0, Value.int .i64 0, Value.int .i64 0] : Array Value) = ics fun _ => 0 := by kernel_rfl
/- Turns that replace nothing. -/
def adv (f : Nat → Ky) (j : Nat) : Nat → Ky := fun v => ⟨(f v).bas, (f v).stp + (j : Int)⟩
theorem adv_zero (f : Nat → Ky) : adv f 0 = f := by
  funext v
  simp [adv]
theorem cu_zero (k : Nat) : cu 0 k = 0 := cu_none fun i _ => by simp
theorem frk_none (f : Nat → Ky) (n : Int) : frk f 0 n = true := frk_zero (cu_zero 21)
theorem trK_none (f : Nat → Ky) (n : Int) (j : Nat) : trK (adv f j) 0 n = adv f (j + 1) := by
  funext v
  rw [trK_old (by simp)]
  unfold adv
  simp [Int.add_assoc]
theorem adv_right {f : Nat → Ky} {j : Nat} (h : kchk f = true) (hs : ∀ v, v < 21 → (f v).stp + (j : Int) ≤ 255) : kchk (adv f j) = true := by
  obtain ⟨h1, h2⟩ := kchk_iff.1 h
  refine kchk_iff.2 ⟨fun i hi => ?_, fun a b hab hb => h2 a b hab hb⟩
  obtain ⟨⟨g1, g2, g3, g4⟩, g5⟩ := h1 i hi
  exact ⟨⟨g1, g2, by unfold adv; dsimp only; omega, hs i hi⟩, g5⟩
/- What holds behind j turns. -/
def Ran (f : Nat → Ky) (j : Nat) : Prop := j = 0 ∨ (kchk f = true ∧ ∀ v, v < 21 → (f v).stp + (j : Int) ≤ 255)
theorem Ran.right {f : Nat → Ky} {j : Nat} (h : Ran f j) (hk : kchk f = true) : kchk (adv f j) = true := by
  rcases h with rfl | ⟨_, h⟩
  · rw [adv_zero]; exact hk
  · exact adv_right hk h
theorem Ran.wrong {f : Nat → Ky} {j : Nat} (h : Ran f j) (hk : kchk (adv f j) = false) : kchk f = false := by
  cases hf : kchk f with
  | false => rfl
  | true => rw [h.right hf] at hk; cases hk
theorem Ran.fine {f : Nat → Ky} {j : Nat} (h : Ran f j) (hk : kchk (adv f j) = true) : kchk f = true := by
  rcases h with rfl | ⟨h, _⟩
  · rw [adv_zero] at hk; exact hk
  · exact h
theorem Ran.next {f : Nat → Ky} {j : Nat} {n : Int} (h : Ran f j) (hE : trE (adv f j) 0 n = 0) : Ran f (j + 1) := by
  obtain ⟨h1, _, _, h4⟩ := trE_good hE
  refine Or.inr ⟨h.fine h1, fun v hv => ?_⟩
  have := stuck_at h4 hv (by simp)
  unfold adv at this
  dsimp only at this
  omega
theorem run_cases (f : Nat → Ky) (j : Nat) (n : Int) (h : Ran f j) : (trE (adv f j) 0 n = 0 ∧ trN (adv f j) 0 n = n ∧ trA (adv f j) 0 n = adv f (j + 1) ∧ Ran f (j + 1)) ∨ (trE (adv f j) 0 n = 31 ∧ kchkE f = 31) ∨ (trE (adv f j) 0 n = 4 ∧ kchkE f = 0) := by
  rcases trE_cases (adv f j) 0 n with ⟨h0, _⟩ | ⟨h1, h2⟩ | h1 | h1 | ⟨h1, h2⟩
  · refine Or.inl ⟨h0, ?_, ?_, h.next h0⟩
    · unfold trN; rw [if_pos h0, cu_zero]; simp
    · unfold trA; rw [if_pos h0, trK_none]
  · exact Or.inr (Or.inl ⟨h1, kchkE_ff (h.wrong h2)⟩)
  · exfalso
    cases hk : kchk (adv f j) with
    | false => rw [trE_wrong hk] at h1; omega
    | true =>
      unfold trE at h1
      rw [hk, if_pos rfl, if_pos (by decide), frk_none, if_pos rfl] at h1
      split at h1 <;> omega
  · exfalso
    cases hk : kchk (adv f j) with
    | false => rw [trE_wrong hk] at h1; omega
    | true =>
      unfold trE at h1
      rw [hk, if_pos rfl, if_pos (by decide), frk_none, if_pos rfl] at h1
      split at h1 <;> omega
  · exact Or.inr (Or.inr ⟨h1, kchkE_tt (h.fine h2)⟩)
/- The path behind them. -/
theorem run_path {f : Nat → Ky} {c : Nat} {u : Nat → Nat} (hu : ∀ i, i < 3 → u i < 21) (hc : Ran f c) (hk : kchk f = true) : flE (fun i => f (u i)) (c : Int) = 0 := by
  have h1 := (kchk_iff.1 hk).1
  refine flE_ok (flG_yes fun i hi => ?_) (flF_no fun i hi => ?_)
  · exact gd_yes (h1 _ (hu i hi)).1
  · unfold far1
    have h2 := (h1 _ (hu i hi)).1.2.2.2
    have h3 : (f (u i)).stp + (c : Int) ≤ 255 := by
      rcases hc with rfl | ⟨_, h⟩
      · simpa using h2
      · exact h _ (hu i hi)
    simp
    omega
end Go.Proofs.Ytgfegolignhefaa
