/- Contracts: the document's In, GoodBox; a table in memory. -/
import Derived.Test.YtompgoaogomoaaaChecked
import Derived.Test.YtompgoaogomoaaaKnMath
import Derived.Test.YtompgoaogomoaaaKeyA
import Derived.WalkKit
import Derived.ProofKit
import Derived.LoopTactic
import Derived.Deep.QuietTactic
import Derived.BigQuiet
import Derived.WalkSmall
namespace Go.Proofs.Ytompgoaogomoaaa.Kn
open Go.RowKit Go.Maps
open Rt (Gd gd gd_yes gd_no rGood_any)
set_option linter.unusedVariables false
set_option linter.unusedSimpArgs false

theorem i64_fit (z : Int) (h0 : -9223372036854775808 ≤ z) (h1 : z < 9223372036854775808) : IntKind.i64.wrap z = z := by
  simp only [IntKind.wrap, IntKind.bits, IntKind.signed]
  simp
  omega
def RdT (w : World) (g : Nat) (f : Nat → Int) : Prop := ∀ i, i < 32768 → w.cell? ⟨g, i, none⟩ = some (.int .i64 (f i))
theorem RdT.later {w w' : World} {g : Nat} {f : Nat → Int} (h : RdT w g f) (hb : Below w.heap.size w w') : RdT w' g f := fun i hi => cell_later hb (h i hi)
theorem inT_no {f : Nat → Int} {b s : Int} (h : gd b s = false) : inT f (b, s) = false := by unfold inT; rw [h]; rfl
theorem inT_own {f : Nat → Int} {b s : Int} (h : gd b s = true) (hb : 32768 ≤ b) : inT f (b, s) = true := by unfold inT; rw [h]; simp [hb]
theorem inT_at {f : Nat → Int} {i : Nat} {s : Int} (h : gd (i : Int) s = true) (hb : i < 32768) : inT f ((i : Int), s) = (!decide (f i = 0) && decide (f i - 1 ≤ s)) := by
  unfold inT
  rw [h, Bool.true_and, decide_eq_false (show ¬ 32768 ≤ (((i : Int), s) : Int × Int).1 by show ¬ 32768 ≤ (i : Int); omega), Bool.false_or]
  rfl
set_option maxRecDepth 100000 in
set_option maxHeartbeats 1000000 in
theorem in_any (g c : Nat) (f : Nat → Int) (b s : Int) (w : World) (h : RdT w g f) (hf : ∀ i, 0 ≤ f i ∧ f i ≤ 256) :
    Calls Try.prog 15 #[.slice (some ⟨g, 0, none⟩) 32768 c, .agg #[.int .i64 b, .int .i64 s]] w fun e w' => e = .returned (.bool (inT f (b, s))) ∧ Below w.heap.size w w' := by
  have hg := rGood_any b s
  cases hgd : gd b s with
  | false =>
    rw [hgd] at hg
    rw [inT_no hgd]
    clear hgd
    go_enter Try.func15, Try.ntmps15
    go_wp2_with (go_at_call 28; refine (hg _).mono ?_; rintro e w' ⟨rfl, rfl⟩)
    go_ret
    exact ⟨rfl, Rt.Below.more (Rt.below1 _ _) _⟩
  | true =>
    rw [hgd] at hg
    have hG := gd_iff.1 hgd
    by_cases h1 : 32768 ≤ b
    · rw [inT_own hgd h1]
      have HG : Hid (Gd b s) := hG
      have d0 : decide (32768 ≤ b) = true := decide_eq_true h1
      clear hgd hG
      go_enter Try.func15, Try.ntmps15
      go_wp2_with (go_at_call 28; refine (hg _).mono ?_; rintro e w' ⟨rfl, rfl⟩)
      go_quiet (fail)
      go_wp2_with fail
      go_ret
      exact ⟨rfl, _root_.Go.below_drewN (Rt.Below.more (Rt.below1 _ _) _) _⟩
    · obtain ⟨i, rfl⟩ : ∃ i : Nat, b = (i : Int) := ⟨b.toNat, by have := hG.1; omega⟩
      have hi : i < 32768 := by omega
      rw [inT_at hgd hi]
      have c0 : ∀ W, Below w.heap.size w W → W.cell? ⟨g, i, none⟩ = some (.int .i64 (f i)) := fun W hW => cell_later hW (h i hi)
      have hfi := hf i
      obtain ⟨x, hx⟩ : ∃ x, f i = x := ⟨_, rfl⟩
      rw [hx] at c0 hfi ⊢
      have d0 : decide (32768 ≤ (i : Int)) = false := decide_eq_false h1
      have hw : IntKind.i64.wrap (x - 1) = x - 1 := i64_fit _ (by omega) (by omega)
      have i1 : (0 : Int) ≤ (i : Int) := by omega
      have i2 : (i : Int) < 32768 := by omega
      have HG : Hid (Gd (i : Int) s) := hG
      have c1 := c0 _ (Rt.Below.more (Rt.below1 w (.cells #[.int .i64 (i : Int), .int .i64 s] 33)) (.cells #[.int .i64 (i : Int), .int .i64 s] 33))
      clear hgd hG h hf hx c0 hfi
      by_cases hx0 : x = 0
      · subst hx0
        go_enter Try.func15, Try.ntmps15
        go_wp2_with (go_at_call 28; refine (hg _).mono ?_; rintro e w' ⟨rfl, rfl⟩)
        go_quiet (fail)
        go_wp2_with fail
        go_ret
        exact ⟨rfl, _root_.Go.below_drewN (Rt.Below.more (Rt.below1 _ _) _) _⟩
      · have d1 : decide (x = 0) = false := decide_eq_false hx0
        go_enter Try.func15, Try.ntmps15
        go_wp2_with (go_at_call 28; refine (hg _).mono ?_; rintro e w' ⟨rfl, rfl⟩)
        go_quiet (fail)
        go_wp2_with fail
        go_ret
        exact ⟨by show Ending.returned (.bool (x != 0 && decide (x - 1 ≤ s))) = _; rw [d1, show (x != 0) = true by simpa using hx0]; rfl, _root_.Go.below_drewN (Rt.Below.more (Rt.below1 _ _) _) _⟩
/- A good box. -/
def gb (b : B2) : Bool := gd b.1.1 b.1.2 && gd b.2.1 b.2.2
end Go.Proofs.Ytompgoaogomoaaa.Kn
