/- Paths: three keys in a block (made by wip/mk_path.py out of the texts of the 21 keys). -/
import Derived.Test.YtpkfpckljpffgaaRtF
namespace Go.Proofs.Ytpkfpckljpffgaa.Rt
open Go.RowKit Go.Great
set_option linter.unusedVariables false
set_option linter.unusedSimpArgs false

def pcs (f : Nat → Ky) : Array Value := Array.ofFn (n := 6) fun i => .int .i64 ((f (i.1 / 2)).fld (i.1 % 2))
@[simp] theorem pcs_size (f : Nat → Ky) : (pcs f).size = 6 := by simp [pcs]
theorem pcs_at (f : Nat → Ky) (j : Nat) (h : j < 6) : (pcs f)[j]? = some (.int .i64 ((f (j / 2)).fld (j % 2))) := by
  rw [Array.getElem?_eq_getElem (by simpa using h)]
  simp [pcs]
theorem pcs_get (f : Nat → Ky) (i : Nat) (h : i < 3) : (pcs f)[i * 2]? = some (.int .i64 (f i).bas) ∧ (pcs f)[i * 2 + 1]? = some (.int .i64 (f i).stp) := by
  refine ⟨?_, ?_⟩
  · rw [pcs_at f _ (by omega), show i * 2 / 2 = i by omega, show i * 2 % 2 = 0 by omega]; rfl
  · rw [pcs_at f _ (by omega), show (i * 2 + 1) / 2 = i by omega, show (i * 2 + 1) % 2 = 1 by omega]; rfl
theorem pcs_congr {f g : Nat → Ky} (h : ∀ i, i < 3 → f i = g i) : pcs f = pcs g := by
  unfold pcs
  congr 1
  funext i
  rw [h (i.1 / 2) (by have := i.2; omega)]
theorem pcs_one (f : Nat → Ky) : (pcs f).all (·.oneCell') = true := by
  rw [Array.all_eq_true]
  intro i h
  simp [pcs, Value.oneCell']
theorem pcs_set (f : Nat → Ky) (k : Nat) (e : Ky) (hk : k < 3) :
    ((pcs f).setIfInBounds (k * 2) (.int .i64 e.bas)).setIfInBounds (k * 2 + 1) (.int .i64 e.stp) = pcs (kup f k e) := by
  apply Array.ext
  · simp
  · intro i h1 h2
    simp at h1
    rw [Array.getElem_setIfInBounds (by simpa using h1), Array.getElem_setIfInBounds (by simpa using h1)]
    simp only [pcs, Array.getElem_ofFn]
    by_cases h : i / 2 = k
    · rw [h, kup_same]
      by_cases c1 : k * 2 + 1 = i
      · rw [if_pos c1, show i % 2 = 1 by omega]; rfl
      · rw [if_neg c1, if_pos (by omega), show i % 2 = 0 by omega]; rfl
    · rw [if_neg (by omega), if_neg (by omega), kup_ne _ _ h]
theorem infoP : (Try.prog.info? 39).map (·.size) = some 6 := by kernel_rfl
def PaAt (w : World) (B : Nat) (f : Nat → Ky) : Prop := w.heap[B]? = some (.cells (pcs f) 39 (0, 0))
theorem PaAt.lt {w : World} {B : Nat} {f : Nat → Ky} (h : PaAt w B f) : B < w.heap.size := (Array.getElem?_eq_some_iff.1 h).1
theorem PaAt.below {n : Nat} {w w' : World} {B : Nat} {f : Nat → Ky} (h : PaAt w B f) (hb : Below n w w') (hn : B < n) : PaAt w' B f := (hb.block B hn).trans h
theorem PaAt.later {w w' : World} {B : Nat} {f : Nat → Ky} (h : PaAt w B f) (hb : Below w.heap.size w w') : PaAt w' B f := h.below hb h.lt
theorem PaAt.new (w : World) (f : Nat → Ky) : PaAt (w.alloc (.cells (pcs f) 39)) w.heap.size f := heap_alloc_last w _
theorem PaAt.congr {w : World} {B : Nat} {f g : Nat → Ky} (h : PaAt w B f) (e : pcs f = pcs g) : PaAt w B g := by unfold PaAt at *; rw [← e]; exact h
theorem alloc_pa (w : World) (f : Nat → Ky) : Below w.heap.size w (w.alloc (.cells (pcs f) 39)) := (Below.refl _ w).alloc (Nat.le_refl _) _
theorem PaAt.cells {w : World} {B : Nat} {f : Nat → Ky} (h : PaAt w B f) (k : Nat) (hk : k < 3) : w.cell? ⟨B, k * 2, none⟩ = some (.int .i64 (f k).bas) ∧ w.cell? ⟨B, k * 2 + 1, none⟩ = some (.int .i64 (f k).stp) := by
  obtain ⟨h0, h1⟩ := pcs_get f k hk
  exact ⟨(cell_of_row w B _ _ _ _ h).trans h0, (cell_of_row w B _ _ _ _ h).trans h1⟩
theorem ldP {ops : Array Oper} {rest : List Oper} {o : Oper} {a : Act} {w : World} {Q : Exit → Act → World → Prop} {B : Nat} {f : Nat → Ky} (h : PaAt w B f) (hgd : o.guard = none) (x : Operand) (ho : o.op = .load 39 x)
    (hx : a.eval x = .pointer (some ⟨B, 0, none⟩)) (k : wpList Try.prog ops Q rest (a.put o.dst (.agg (pcs f))) w) : wpList Try.prog ops Q (o :: rest) a w :=
  wpList_load_row hgd 39 x ho B hx 39 (pcs f) (0, 0) _ h Try.underlying39 rfl (by rw [pcs_size]; exact infoP) k
theorem stP {ops : Array Oper} {rest : List Oper} {o : Oper} {a : Act} {w : World} {Q : Exit → Act → World → Prop} {B : Nat} {f g : Nat → Ky} (h : PaAt w B f) (hgd : o.guard = none) (x y : Operand) (ho : o.op = .store 39 x y)
    (hx : a.eval x = .pointer (some ⟨B, 0, none⟩)) (hy : a.eval y = .agg (pcs g)) (k : wpList Try.prog ops Q rest (a.put o.dst undef) (w.setRow B (pcs g))) : wpList Try.prog ops Q (o :: rest) a w :=
  wpList_store_row hgd 39 x y ho B (pcs g) hx hy 39 (pcs f) h (by rw [pcs_size]; exact infoP) (by rw [pcs_size, pcs_size]) (pcs_one g) k
theorem PaAt.row {w : World} {B : Nat} {f : Nat → Ky} (h : PaAt w B f) (g : Nat → Ky) : PaAt (w.setRow B (pcs g)) B g := heap_setRow_same h _
theorem PaAt.set2 {w : World} {B : Nat} {f : Nat → Ky} (h : PaAt w B f) (k : Nat) (hk : k < 3) (a b : Int) :
    PaAt ((w.setCell ⟨B, k * 2, none⟩ (.int .i64 a)).setCell ⟨B, k * 2 + 1, none⟩ (.int .i64 b)) B (kup f k ⟨a, b⟩) := by
  have h3 := row_setCell (row_setCell h (k * 2) (.int .i64 a)) (k * 2 + 1) (.int .i64 b)
  rw [pcs_set f k ⟨a, b⟩ hk] at h3
  exact h3
theorem zero6 : (#[Value.int .i64 0, Value.int .i64 0, Value.int .i64 0, Value.int .i64 0, Value.int .i64 0, Value.int .i64 0] : Array Value) = pcs fun _ => zK := by kernel_rfl
theorem extP (f : Nat → Ky) (k : Nat) (hk : k < 3) : (pcs f).extract (k * 2) (k * 2 + 2) = #[.int .i64 (f k).bas, .int .i64 (f k).stp] := by
  obtain ⟨h0, h1⟩ := pcs_get f k hk
  have hs := pcs_size f
  apply Array.ext
  · simp; omega
  · intro i h3 h4
    simp at h4
    rw [Array.getElem_extract]
    match i, h4 with
    | 0, _ => simpa using (Array.getElem?_eq_some_iff.1 h0).2
    | 1, _ => simpa using (Array.getElem?_eq_some_iff.1 h1).2
theorem idxP (f : Nat → Ky) (k : Nat) (hk : k < 3) (W : World) : (Instr.index 39 (.agg (pcs f)) (.int .i64 (k : Int))).run Try.prog W = .ok (.agg #[.int .i64 (f k).bas, .int .i64 (f k).stp]) W := by
  have hk2 : (k : Int) < 3 := by omega
  have hk3 : (0 : Int) ≤ (k : Int) := by omega
  have e := extP f k hk
  have hs := pcs_size f
  generalize pcs f = c at *
  simp [Instr.index, asIntOf, hk2, hk3, part, go_sem, e]
  omega
def eqP (f g : Nat → Ky) : Bool := (List.range 3).all fun i => eqY (f i) (g i)
theorem eqP_iff {f g : Nat → Ky} : eqP f g = true ↔ ∀ i, i < 3 → f i = g i := by
  unfold eqP
  rw [List.all_eq_true]
  exact ⟨fun h i hi => eqY_iff.1 (h i (List.mem_range.2 hi)), fun h i hi => eqY_iff.2 (h i (List.mem_range.1 hi))⟩
theorem eqP_refl (f : Nat → Ky) : eqP f f = true := eqP_iff.2 fun _ _ => rfl
theorem partP (f : Nat → Ky) (i : Nat) (hi : i < 3) (w : World) : (part 23 (pcs f) (i * 2)).run Try.prog w = .ok (.agg #[.int .i64 (f i).bas, .int .i64 (f i).stp]) w := by
  have e := extP f i hi
  simp [part, go_sem, e]
theorem eqItemsP (f g : Nat → Ky) (d : Nat) (w : World) : ∀ l : List Nat, (∀ i ∈ l, i < 3) → (Op.eqItems (d + 2) 23 2 (pcs f) (pcs g) l).run Try.prog w = .ok (l.all fun i => eqY (f i) (g i)) w
  | [], _ => by simp [Op.eqItems]
  | i :: l, h => by
    have hi := h i (by simp)
    have ih := eqItemsP f g d w l fun j hj => h j (by simp [hj])
    cases he : eqY (f i) (g i) with
    | false => simp [Op.eqItems, Sem.run_bind, Sem.run_ite, partP _ i hi, Result.andThen_ok, run_eqKy d, he]
    | true => simp [Op.eqItems, Sem.run_bind, Sem.run_ite, partP _ i hi, Result.andThen_ok, run_eqKy d, he, ih]
theorem run_eqPa (f g : Nat → Ky) (w : World) : (Op.equalIn 10000 39 (.agg (pcs f)) (.agg (pcs g))).run Try.prog w = .ok (eqP f g) w := by
  obtain ⟨i, hi⟩ := Option.isSome_iff_exists.mp info_ky
  rw [run_equalIn_array w 9999 _ _ Try.underlying39 hi]
  have h := eqItemsP f g 9997 w (List.range 3) fun i hi => List.mem_range.1 hi
  rw [cells_ky]
  exact h
theorem eqPa {ops : Array Oper} {rest : List Oper} {o : Oper} {a : Act} {w : World} {Q : Exit → Act → World → Prop} {f g : Nat → Ky} {b : Bool} (hb : eqP f g = b) (hgd : o.guard = none) (x y : Operand) (ho : o.op = .binOp .eql 39 x y 39)
    (hx : a.eval x = .agg (pcs f)) (hy : a.eval y = .agg (pcs g)) (k : wpList Try.prog ops Q rest (a.put o.dst (.bool b)) w) : wpList Try.prog ops Q (o :: rest) a w := by
  subst hb
  refine wpList_readTo hgd o.dst rfl (.bool (eqP f g)) ?_ k
  have h1 := run_eqGuard_agg (P := Try.prog) w .eql 39 x y (pcs f) (pcs g) Try.eqGuardType39
  have h2 := run_eql_struct (P := Try.prog) w 39 (pcs f) (pcs g)
  rw [run_eqPa] at h2
  simp [execOp, ho, hx, hy, h1, h2, Sem.run_bind, Result.andThen]
theorem zero6' : Value.agg #[Value.int .i64 0, Value.int .i64 0, Value.int .i64 0, Value.int .i64 0, Value.int .i64 0, Value.int .i64 0] = .agg (pcs fun _ => zK) := by rw [zero6]
theorem ldP_run {w : World} {B : Nat} {f : Nat → Ky} (h : PaAt w B f) : (Instr.loadAt 39 (.pointer (some ⟨B, 0, none⟩))).run Try.prog w = .ok (.agg (pcs f)) w := by
  simp only [Instr.loadAt, Instr.sureAddr, Sem.run_bind, Sem.run_pure, Result.andThen]
  exact run_loadVar_row w B _ _ _ _ _ h Try.underlying39 rfl (by rw [pcs_size]; exact infoP)
theorem ldP_exec {w : World} {B : Nat} {f : Nat → Ky} (h : PaAt w B f) {a : Act} {o : Oper} {x : Operand} (ho : o.op = .load 39 x) (hx : a.eval x = .pointer (some ⟨B, 0, none⟩)) : (execOp a.eval o).run Try.prog w = .ok (.value (.agg (pcs f))) w := by
  have := ldP_run h
  simp [execOp, ho, hx, this, Sem.run_bind, Result.andThen]
theorem alloc_zeroP (w : World) : w.alloc (.cells #[Value.int .i64 0, Value.int .i64 0, Value.int .i64 0, Value.int .i64 0, Value.int .i64 0, Value.int .i64 0] 39) = w.alloc (.cells (pcs fun _ => zK) 39) := by rw [zero6]
theorem new_zeroP (w : World) : PaAt (w.alloc (.cells #[Value.int .i64 0, Value.int .i64 0, Value.int .i64 0, Value.int .i64 0, Value.int .i64 0, Value.int .i64 0] 39)) w.heap.size (fun _ => zK) := by rw [alloc_zeroP]; exact PaAt.new _ _
end Go.Proofs.Ytpkfpckljpffgaa.Rt
