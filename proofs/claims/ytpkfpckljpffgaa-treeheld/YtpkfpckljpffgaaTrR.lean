/- Who is held, on plain data; what '==' says of equal paths. -/
import Derived.Test.YtpkfpckljpffgaaTrM
namespace Go.Proofs.Ytpkfpckljpffgaa
open Go.RowKit
open Rt (Ky zK kcs KyAt pcs PaAt)
open Rs (En zE tkn)
open Sh (belB)
set_option linter.unusedVariables false
set_option linter.unusedSimpArgs false

theorem bel_leaf_all : ∀ s s' : Fin 64, belB (21 + (s.val : Int)) (21 + (s'.val : Int)) = decide (s.val = s'.val) := by decide +kernel
theorem bel_leaf {s s' : Nat} (h : s < 64) (h' : s' < 64) : belB (21 + (s : Int)) (21 + (s' : Int)) = decide (s = s') := bel_leaf_all ⟨s, h⟩ ⟨s', h'⟩
theorem bel_inner_all : ∀ v : Fin 21, ∀ s : Fin 64, belB (v.val : Int) (21 + (s.val : Int)) = (belB (4 * (v.val : Int) + 1) (21 + (s.val : Int)) || belB (4 * (v.val : Int) + 2) (21 + (s.val : Int)) || belB (4 * (v.val : Int) + 3) (21 + (s.val : Int)) || belB (4 * (v.val : Int) + 4) (21 + (s.val : Int))) := by decide +kernel
theorem bel_inner {v s : Nat} (hv : v < 21) (hs : s < 64) : belB (v : Int) (21 + (s : Int)) = (belB (4 * (v : Int) + 1) (21 + (s : Int)) || belB (4 * (v : Int) + 2) (21 + (s : Int)) || belB (4 * (v : Int) + 3) (21 + (s : Int)) || belB (4 * (v : Int) + 4) (21 + (s : Int))) := bel_inner_all ⟨v, hv⟩ ⟨s, hs⟩
theorem hld_leaf (r : Nat → En) {s : Nat} (hs : s < 64) : hld r (21 + (s : Int)) = tkn (r s) := by
  unfold hld
  cases ht : tkn (r s) with
  | true => exact any_yes hs (by rw [ht, bel_leaf hs hs]; simp)
  | false =>
    refine any_no fun j hj => ?_
    by_cases h : s = j
    · subst h; rw [ht]; rfl
    · rw [bel_leaf hs hj, decide_eq_false h, Bool.and_false]
theorem hld_iff (r : Nat → En) (v : Int) : hld r v = true ↔ ∃ s, s < 64 ∧ tkn (r s) = true ∧ belB v (21 + (s : Int)) = true := by
  unfold hld
  rw [List.any_eq_true]
  constructor
  · rintro ⟨s, hs, h⟩
    rw [Bool.and_eq_true] at h
    exact ⟨s, List.mem_range.1 hs, h.1, h.2⟩
  · rintro ⟨s, hs, h1, h2⟩
    exact ⟨s, List.mem_range.2 hs, by rw [h1, h2]; rfl⟩
theorem hld_inner (r : Nat → En) {v : Nat} (hv : v < 21) : hld r (v : Int) = (hld r (4 * (v : Int) + 1) || hld r (4 * (v : Int) + 2) || hld r (4 * (v : Int) + 3) || hld r (4 * (v : Int) + 4)) := by
  rw [Bool.eq_iff_iff]
  simp only [Bool.or_eq_true, hld_iff]
  constructor
  · rintro ⟨s, hs, h1, h2⟩
    rw [bel_inner hv hs] at h2
    simp only [Bool.or_eq_true] at h2
    rcases h2 with ((h2 | h2) | h2) | h2
    · exact Or.inl (Or.inl (Or.inl ⟨s, hs, h1, h2⟩))
    · exact Or.inl (Or.inl (Or.inr ⟨s, hs, h1, h2⟩))
    · exact Or.inl (Or.inr ⟨s, hs, h1, h2⟩)
    · exact Or.inr ⟨s, hs, h1, h2⟩
  · rintro (((⟨s, hs, h1, h2⟩ | ⟨s, hs, h1, h2⟩) | ⟨s, hs, h1, h2⟩) | ⟨s, hs, h1, h2⟩) <;> exact ⟨s, hs, h1, by rw [bel_inner hv hs, h2]; simp⟩
theorem pcs_p6 (f : Nat → Ky) : pcs f = p6 (f 0) (f 1) (f 2) := pcs6 f
theorem eqPa_exec {w : World} {f g : Nat → Ky} {b : Bool} (hb : Rt.eqP f g = b) {o : Oper} {a : Act} {x y : Operand} (ho : o.op = .binOp .eql 39 x y 39)
    (hx : a.eval x = .agg (pcs f)) (hy : a.eval y = .agg (pcs g)) : (execOp a.eval o).run Try.prog w = .ok (.value (.bool b)) w := by
  subst hb
  have h1 := run_eqGuard_agg (P := Try.prog) w .eql 39 x y (pcs f) (pcs g) Try.eqGuardType39
  have h2 := run_eql_struct (P := Try.prog) w 39 (pcs f) (pcs g)
  rw [Rt.run_eqPa] at h2
  simp [execOp, ho, hx, hy, h1, h2, Sem.run_bind, Result.andThen]
end Go.Proofs.Ytpkfpckljpffgaa
