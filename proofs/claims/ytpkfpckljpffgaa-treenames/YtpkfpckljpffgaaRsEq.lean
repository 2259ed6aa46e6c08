/- What '==' says of entries and of rosters. -/
import Derived.Test.YtpkfpckljpffgaaRsA
import Derived.Great.Walk
import Derived.ChangeKeysEq
namespace Go.Proofs.Ytpkfpckljpffgaa.Rs
open Go.RowKit Go.Great
set_option linter.unusedVariables false
set_option linter.unusedSimpArgs false

def eqE (a b : En) : Bool := decide (a.who = b.who) && decide (a.bas = b.bas) && decide (a.snc = b.snc)
theorem eqE_iff {a b : En} : eqE a b = true ↔ a = b := by
  simp only [eqE, Bool.and_eq_true, decide_eq_true_eq]
  exact ⟨fun h => En.ext' h.1.1 h.1.2 h.2, fun h => by subst h; simp⟩
theorem eqE_zero (e : En) : eqE e zE = isz e := rfl
theorem run_eqEn (d : Nat) (a b : En) (w : World) : (Op.equalIn (d + 2) 27 (.agg #[.int .i64 a.who, .int .i64 a.bas, .int .i64 a.snc]) (.agg #[.int .i64 b.who, .int .i64 b.bas, .int .i64 b.snc])).run Try.prog w = .ok (eqE a b) w := by
  have e1 : ∀ x y : Int, (x == y) = decide (x = y) := fun x y => by rw [Bool.eq_iff_iff]; simp
  rw [run_equalIn_agg w (d + 1) 27 _ _ rfl rfl]
  by_cases h1 : a.who = b.who <;> by_cases h2 : a.bas = b.bas <;> by_cases h3 : a.snc = b.snc <;> simp [eqE, go_sem, part, h1, h2, h3]
def eqB (f g : Nat → En) : Bool := (List.range 64).all fun i => eqE (f i) (g i)
theorem eqB_iff {f g : Nat → En} : eqB f g = true ↔ ∀ i, i < 64 → f i = g i := by
  unfold eqB
  rw [List.all_eq_true]
  exact ⟨fun h i hi => eqE_iff.1 (h i (List.mem_range.2 hi)), fun h i hi => eqE_iff.2 (h i (List.mem_range.1 hi))⟩
theorem eqB_refl (f : Nat → En) : eqB f f = true := eqB_iff.2 fun _ _ => rfl
theorem part25 (f : Nat → En) (i : Nat) (hi : i < 64) (w : World) : (part 27 (rcs f) (i * 3)).run Try.prog w = .ok (.agg #[.int .i64 (f i).who, .int .i64 (f i).bas, .int .i64 (f i).snc]) w := by
  have e := ext25 f i hi
  simp [part, go_sem, e]
theorem eqItems25 (f g : Nat → En) (d : Nat) (w : World) : ∀ l : List Nat, (∀ i ∈ l, i < 64) → (Op.eqItems (d + 2) 27 3 (rcs f) (rcs g) l).run Try.prog w = .ok (l.all fun i => eqE (f i) (g i)) w
  | [], _ => by simp [Op.eqItems]
  | i :: l, h => by
    have hi := h i (by simp)
    have ih := eqItems25 f g d w l fun j hj => h j (by simp [hj])
    cases he : eqE (f i) (g i) with
    | false => simp [Op.eqItems, Sem.run_bind, Sem.run_ite, part25 _ i hi, Result.andThen_ok, run_eqEn d, he]
    | true => simp [Op.eqItems, Sem.run_bind, Sem.run_ite, part25 _ i hi, Result.andThen_ok, run_eqEn d, he, ih]
theorem info_en : (Try.prog.info? 27).isSome = true := by kernel_rfl
theorem cells_en : Try.prog.cellsOf 27 = 3 := by kernel_rfl
theorem run_eqRo (f g : Nat → En) (w : World) : (Op.equalIn 10000 29 (.agg (rcs f)) (.agg (rcs g))).run Try.prog w = .ok (eqB f g) w := by
  obtain ⟨i, hi⟩ := Option.isSome_iff_exists.mp info_en
  rw [run_equalIn_array w 9999 _ _ Try.underlying29 hi]
  have h := eqItems25 f g 9997 w (List.range 64) fun i hi => List.mem_range.1 hi
  rw [cells_en]
  exact h
theorem eq25 {ops : Array Oper} {rest : List Oper} {o : Oper} {a : Act} {w : World} {Q : Exit → Act → World → Prop} {f g : Nat → En} {b : Bool} (hb : eqB f g = b) (hgd : o.guard = none) (x y : Operand) (ho : o.op = .binOp .eql 29 x y 29)
    (hx : a.eval x = .agg (rcs f)) (hy : a.eval y = .agg (rcs g)) (k : wpList Try.prog ops Q rest (a.put o.dst (.bool b)) w) : wpList Try.prog ops Q (o :: rest) a w := by
  subst hb
  refine wpList_readTo hgd o.dst rfl (.bool (eqB f g)) ?_ k
  have h1 := run_eqGuard_agg (P := Try.prog) w .eql 29 x y (rcs f) (rcs g) Try.eqGuardType29
  have h2 := run_eql_struct (P := Try.prog) w 29 (rcs f) (rcs g)
  rw [run_eqRo] at h2
  simp [execOp, ho, hx, hy, h1, h2, Sem.run_bind, Result.andThen]
theorem eq23 {ops : Array Oper} {rest : List Oper} {o : Oper} {a : Act} {w : World} {Q : Exit → Act → World → Prop} {e d : En} {b : Bool} (hb : eqE e d = b) (hgd : o.guard = none) (x y : Operand) (ho : o.op = .binOp .eql 27 x y 27)
    (hx : a.eval x = .agg #[.int .i64 e.who, .int .i64 e.bas, .int .i64 e.snc]) (hy : a.eval y = .agg #[.int .i64 d.who, .int .i64 d.bas, .int .i64 d.snc]) (k : wpList Try.prog ops Q rest (a.put o.dst (.bool b)) w) : wpList Try.prog ops Q (o :: rest) a w := by
  subst hb
  refine wpList_readTo hgd o.dst rfl (.bool (eqE e d)) ?_ k
  have h1 := run_eqGuard_agg (P := Try.prog) w .eql 27 x y #[.int .i64 e.who, .int .i64 e.bas, .int .i64 e.snc] #[.int .i64 d.who, .int .i64 d.bas, .int .i64 d.snc] Try.eqGuardType27
  have h2 := run_eql_struct (P := Try.prog) w 27 #[.int .i64 e.who, .int .i64 e.bas, .int .i64 e.snc] #[.int .i64 d.who, .int .i64 d.bas, .int .i64 d.snc]
  rw [run_eqEn 9998] at h2
  simp [execOp, ho, hx, hy, h1, h2, Sem.run_bind, Result.andThen]
end Go.Proofs.Ytpkfpckljpffgaa.Rs
