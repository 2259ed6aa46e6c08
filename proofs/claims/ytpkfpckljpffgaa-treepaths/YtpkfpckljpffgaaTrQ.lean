/- What '==' says of equal cards and states. -/
import Derived.Test.YtpkfpckljpffgaaTrM
namespace Go.Proofs.Ytpkfpckljpffgaa
open Go.RowKit
open Rt (Ky zK kcs KyAt pcs PaAt)
set_option linter.unusedVariables false
set_option linter.unusedSimpArgs false

theorem run_eqP6 (d : Nat) (p q r : Ky) (w : World) : (Op.equalIn (d + 3) 39 (.agg (p6 p q r)) (.agg (p6 p q r))).run Try.prog w = .ok true w := by
  have e : p6 p q r = pcs (fun i => if i = 0 then p else if i = 1 then q else r) := by rw [pcs6]; rfl
  rw [e]
  obtain ⟨i, hi⟩ := Option.isSome_iff_exists.mp Rt.info_ky
  rw [run_equalIn_array w (d + 2) _ _ Try.underlying39 hi]
  have h := Rt.eqItemsP (fun i => if i = 0 then p else if i = 1 then q else r) (fun i => if i = 0 then p else if i = 1 then q else r) d w (List.range 3) fun i hi => List.mem_range.1 hi
  rw [Rt.cells_ky, h]
  have := Rt.eqP_refl (fun i => if i = 0 then p else if i = 1 then q else r)
  unfold Rt.eqP at this
  rw [this]
set_option maxRecDepth 100000 in
theorem run_eqMb (W S P : Int) (k p q r : Ky) (b : Bool) (w : World) : (Op.equalIn 10000 50 (.agg (mcs W S P k p q r b)) (.agg (mcs W S P k p q r b))).run Try.prog w = .ok true w := by
  have c3 : (Op.equalIn 9999 39 (.agg (p6 p q r)) (.agg (p6 p q r))).run Try.prog w = _ := run_eqP6 9996 p q r w
  unfold p6 at c3
  rw [run_equalIn_agg w 9999 50 _ _ (by kernel_rfl) (by kernel_rfl)]
  unfold mcs
  simp [go_sem, c3, part]
theorem eqMb_exec {w : World} {W S P : Int} {k p q r : Ky} {b : Bool} {o : Oper} {a : Act} {x y : Operand} (ho : o.op = .binOp .eql 50 x y 50)
    (hx : a.eval x = .agg (mcs W S P k p q r b)) (hy : a.eval y = .agg (mcs W S P k p q r b)) : (execOp a.eval o).run Try.prog w = .ok (.value (.bool true)) w := by
  have h1 := run_eqGuard_agg (P := Try.prog) w .eql 50 x y (mcs W S P k p q r b) (mcs W S P k p q r b) Try.eqGuardType50
  have h2 := run_eql_struct (P := Try.prog) w 50 (mcs W S P k p q r b) (mcs W S P k p q r b)
  rw [run_eqMb] at h2
  simp [execOp, ho, hx, hy, h1, h2, Sem.run_bind, Result.andThen]
set_option maxRecDepth 100000 in
theorem run_eqCd (W S P : Int) (k : Ky) (w : World) : (Op.equalIn 10000 46 (.agg (ccs W S P k)) (.agg (ccs W S P k))).run Try.prog w = .ok true w := by
  rw [run_equalIn_agg w 9999 46 _ _ (by kernel_rfl) (by kernel_rfl)]
  unfold ccs
  simp [go_sem, part]
theorem eqCd_exec {w : World} {W S P : Int} {k : Ky} {o : Oper} {a : Act} {x y : Operand} (ho : o.op = .binOp .eql 46 x y 46)
    (hx : a.eval x = .agg (ccs W S P k)) (hy : a.eval y = .agg (ccs W S P k)) : (execOp a.eval o).run Try.prog w = .ok (.value (.bool true)) w := by
  have h1 := run_eqGuard_agg (P := Try.prog) w .eql 46 x y (ccs W S P k) (ccs W S P k) Try.eqGuardType46
  have h2 := run_eql_struct (P := Try.prog) w 46 (ccs W S P k) (ccs W S P k)
  rw [run_eqCd] at h2
  simp [execOp, ho, hx, hy, h1, h2, Sem.run_bind, Result.andThen]
theorem neCd_exec {w : World} {W S P : Int} {k : Ky} {o : Oper} {a : Act} {x y : Operand} (ho : o.op = .binOp .neq 46 x y 46)
    (hx : a.eval x = .agg (ccs W S P k)) (hy : a.eval y = .agg (ccs W S P k)) : (execOp a.eval o).run Try.prog w = .ok (.value (.bool false)) w := by
  have h1 := run_eqGuard_agg (P := Try.prog) w .neq 46 x y (ccs W S P k) (ccs W S P k) Try.eqGuardType46
  have h2 := run_neq_struct (P := Try.prog) w 46 (ccs W S P k) (ccs W S P k)
  rw [run_eqCd] at h2
  simp [execOp, ho, hx, hy, h1, h2, Sem.run_bind, Result.andThen]
/- Loads of whole cards and states. -/
theorem CdAt.run {w : World} {B : Nat} {W S P : Int} {k : Ky} (h : CdAt w B W S P k) : (Instr.loadAt 46 (.pointer (some ⟨B, 0, none⟩))).run Try.prog w = .ok (.agg (ccs W S P k)) w := by
  simp only [Instr.loadAt, Instr.sureAddr, Sem.run_bind, Sem.run_pure, Result.andThen]
  exact h.var
theorem MbAt.run {w : World} {B : Nat} {W S P : Int} {k p q r : Ky} {b : Bool} (h : MbAt w B W S P k p q r b) : (Instr.loadAt 50 (.pointer (some ⟨B, 0, none⟩))).run Try.prog w = .ok (.agg (mcs W S P k p q r b)) w := by
  simp only [Instr.loadAt, Instr.sureAddr, Sem.run_bind, Sem.run_pure, Result.andThen]
  exact h.var
theorem MbAt.new (w : World) (W S P : Int) (k p q r : Ky) (b : Bool) : MbAt (w.alloc (.cells (mcs W S P k p q r b) 50)) w.heap.size W S P k p q r b := heap_alloc_last w _
theorem CdAt.new (w : World) (W S P : Int) (k : Ky) : CdAt (w.alloc (.cells (ccs W S P k) 46)) w.heap.size W S P k := heap_alloc_last w _
theorem CdAt.later {w w' : World} {B : Nat} {W S P : Int} {k : Ky} (h : CdAt w B W S P k) (hb : Below w.heap.size w w') : CdAt w' B W S P k := row_later h hb
theorem MbAt.later {w w' : World} {B : Nat} {W S P : Int} {k p q r : Ky} {b : Bool} (h : MbAt w B W S P k p q r b) (hb : Below w.heap.size w w') : MbAt w' B W S P k p q r b := row_later h hb
end Go.Proofs.Ytpkfpckljpffgaa
