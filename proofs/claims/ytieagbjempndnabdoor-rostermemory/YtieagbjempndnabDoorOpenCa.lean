/- Cases: a roster, a batch, two numbers, in one block; opening one that came in as an argument. -/
import Derived.Test.YtieagbjempndnabDoorOpenRs
namespace Go.Proofs.YtieagbjempndnabDoor
open Go.ChangeShapes Go.WideShapes Go.ChangeAt Go.RowKit Go.Joins Go.Deep
set_option linter.unusedVariables false
set_option linter.unusedSimpArgs false

def ccs (f : Nat → En) (aL aJ : Option Addr) (nL nJ cL cJ : Nat) (sc bs : Int) : Array Value := rcs f ++ #[.slice aL nL cL, .slice aJ nJ cJ, .int .i64 sc, .int .i64 bs]
def CaAt (w : World) (B : Nat) (f : Nat → En) (aL aJ : Option Addr) (nL nJ cL cJ : Nat) (sc bs : Int) : Prop := w.heap[B]? = some (.cells (ccs f aL aJ nL nJ cL cJ sc bs) 30 (0, 0))
section
variable {w w' : World} {B n : Nat} {f : Nat → En} {aL aJ : Option Addr} {nL nJ cL cJ : Nat} {sc bs : Int}
theorem CaAt.lt (h : CaAt w B f aL aJ nL nJ cL cJ sc bs) : B < w.heap.size := (Array.getElem?_eq_some_iff.1 h).1
theorem CaAt.below (h : CaAt w B f aL aJ nL nJ cL cJ sc bs) (hb : Below n w w') (hn : B < n) : CaAt w' B f aL aJ nL nJ cL cJ sc bs := (hb.block B hn).trans h
theorem CaAt.later (h : CaAt w B f aL aJ nL nJ cL cJ sc bs) (hb : Below w.heap.size w w') : CaAt w' B f aL aJ nL nJ cL cJ sc bs := h.below hb h.lt
theorem CaAt.new (w : World) (f : Nat → En) (aL aJ : Option Addr) (nL nJ cL cJ : Nat) (sc bs : Int) : CaAt (w.alloc (.cells (ccs f aL aJ nL nJ cL cJ sc bs) 30)) w.heap.size f aL aJ nL nJ cL cJ sc bs := heap_alloc_last w _
theorem ccs_low (j : Nat) (h : j < 192) : (ccs f aL aJ nL nJ cL cJ sc bs)[j]? = (rcs f)[j]? := by
  unfold ccs
  rw [Array.getElem?_append_left (by simpa using h)]
theorem ccs_high (j : Nat) : (ccs f aL aJ nL nJ cL cJ sc bs)[192 + j]? = (#[Value.slice aL nL cL, .slice aJ nJ cJ, .int .i64 sc, .int .i64 bs] : Array Value)[j]? := by
  unfold ccs
  rw [Array.getElem?_append_right (by simp)]
  simp
theorem CaAt.cells (h : CaAt w B f aL aJ nL nJ cL cJ sc bs) : w.cell? ⟨B, 192, none⟩ = some (.slice aL nL cL) ∧ w.cell? ⟨B, 193, none⟩ = some (.slice aJ nJ cJ) ∧ w.cell? ⟨B, 194, none⟩ = some (.int .i64 sc) ∧ w.cell? ⟨B, 195, none⟩ = some (.int .i64 bs) :=
  ⟨(cell_of_row w B _ _ _ _ h).trans (ccs_high 0), (cell_of_row w B _ _ _ _ h).trans (ccs_high 1), (cell_of_row w B _ _ _ _ h).trans (ccs_high 2), (cell_of_row w B _ _ _ _ h).trans (ccs_high 3)⟩
theorem CaAt.ro (h : CaAt w B f aL aJ nL nJ cL cJ sc bs) (k : Nat) (hk : k < 64) : w.cell? ⟨B, k * 3, none⟩ = some (.int .i64 (f k).who) ∧ w.cell? ⟨B, k * 3 + 1, none⟩ = some (.int .i64 (f k).bas) ∧ w.cell? ⟨B, k * 3 + 2, none⟩ = some (.int .i64 (f k).snc) := by
  obtain ⟨h0, h1, h2⟩ := rcs_get f k hk
  exact ⟨(cell_of_row w B _ _ _ _ h).trans ((ccs_low _ (by omega)).trans h0), (cell_of_row w B _ _ _ _ h).trans ((ccs_low _ (by omega)).trans h1), (cell_of_row w B _ _ _ _ h).trans ((ccs_low _ (by omega)).trans h2)⟩
theorem CaAt.var (h : CaAt w B f aL aJ nL nJ cL cJ sc bs) : (loadVar 25 ⟨B, 0, none⟩).run Tryd.prog w = .ok (.agg (rcs f)) w := by
  have hl : (loadCells ⟨B, 0, none⟩ (rcs f).toList.length).run Tryd.prog w = .ok (rcs f).toList.toArray w :=
    run_loadCells_list (P := Tryd.prog) w ⟨B, 0, none⟩ (rcs f).toList (fun j v hv => by
      have hadd : (⟨B, 0, none⟩ : Addr).add j = ⟨B, j, none⟩ := by unfold Addr.add; split <;> simp_all
      have hv' : (rcs f)[j]? = some v := by simpa using hv
      have hj : j < 192 := by have := (Array.getElem?_eq_some_iff.1 hv').1; simpa using this
      rw [hadd, cell_of_row w B j _ _ _ h, ccs_low j hj]
      exact hv')
  have hi := info25
  cases hq : Tryd.prog.info? 25 with
  | none => rw [hq] at hi; simp at hi
  | some i =>
    have hs : i.size = 192 := by rw [hq] at hi; simpa using hi
    have hagg : (isAgg 25).run Tryd.prog w = .ok true w := by
      unfold isAgg
      rw [Sem.run_bind, run_underlying Tryd.underlying25 w]
      simp
    simp only [Array.length_toList, Array.toArray_toList, rcs_size] at hl
    simp only [loadVar, Sem.run_bind, hagg, sizeOf, typeInfo, hq, hs]
    simp [hl, Sem.run_bind, typeInfo, hq, hs]
theorem CaAt.run (h : CaAt w B f aL aJ nL nJ cL cJ sc bs) : (Instr.loadAt 25 (.pointer (some ⟨B, 0, none⟩))).run Tryd.prog w = .ok (.agg (rcs f)) w := by
  simp only [Instr.loadAt, Instr.sureAddr, Sem.run_bind, Sem.run_pure, Result.andThen]
  exact h.var
theorem CaAt.exec (h : CaAt w B f aL aJ nL nJ cL cJ sc bs) {a : Act} {o : Oper} {x : Operand} (ho : o.op = .load 25 x) (hx : a.eval x = .pointer (some ⟨B, 0, none⟩)) : (execOp a.eval o).run Tryd.prog w = .ok (.value (.agg (rcs f))) w := by
  have := h.run
  simp [execOp, ho, hx, this, Sem.run_bind, Result.andThen]
theorem ld25c {ops : Array Oper} {rest : List Oper} {o : Oper} {a : Act} {Q : Exit → Act → World → Prop} (h : CaAt w B f aL aJ nL nJ cL cJ sc bs) (hgd : o.guard = none) (x : Operand) (ho : o.op = .load 25 x)
    (hx : a.eval x = .pointer (some ⟨B, 0, none⟩)) (k : wpList Tryd.prog ops Q rest (a.put o.dst (.agg (rcs f))) w) : wpList Tryd.prog ops Q (o :: rest) a w :=
  Go.Great.wpList_readTo hgd o.dst rfl _ (h.exec ho hx) k
theorem rd_guard {ops : Array Oper} {rest : List Oper} {o : Oper} {a : Act} {Q : Exit → Act → World → Prop} {v : Value} (hw : Region.wanted o (yielded ops a.tmps) = true) (hrun : (execOp a.eval o).run Tryd.prog w = .ok (.value v) w)
    (k : wpList Tryd.prog ops Q rest (a.put o.dst v) w) : wpList Tryd.prog ops Q (o :: rest) a w := by
  refine wpList_step fun K hK => ?_
  rw [if_pos hw]
  unfold Oper.wp
  rw [hrun, Oper.upon_value]
  exact hK _ _ k
end
section
variable {H : Type} {enc : TypeId × Value → H} {W : World} {base : Nat} {spare : Nat → Bool} {held : Bool}
theorem cellsCa : Tryd.prog.cellsOf 30 = 196 := by kernel_rfl
theorem sized_bt {y : List (DataW H)} {b : DataW H} (hw : (DataW.weightsEach Tryd.prog [ 25, 28, 3, 3 ] y).all (· ≤ reachBytes) = true) (hb : y[1]? = some b) (parts : List (DataW H)) (e : b = .agg parts) : (DataW.weightsEach Tryd.prog [ 26, 26 ] parts).all (· ≤ reachBytes) = true := by
  subst e
  exact sized_agg hw (j := 1) (t := 28) rfl hb Tryd.underlying28
set_option maxRecDepth 100000 in
set_option maxHeartbeats 1000000 in
theorem open_case {r : Reach} {b0 : Nat} {v : Value} {d : DataW H} {ps : List MemPlace} (hs : ∀ parts, d = .agg parts → (DataW.weightsEach Tryd.prog [ 25, 28, 3, 3 ] parts).all (· ≤ reachBytes) = true) (hv : Value.okWide Tryd.prog W r b0 30 v) (h : DataW.Trod enc Tryd.prog W base spare held 30 v d ps) :
    ∃ (f : Nat → En) (aL aJ : Option Addr) (cL cJ : Nat) (L J : List Int) (sc bs : Int), v = .agg (ccs f aL aJ L.length J.length cL cJ sc bs) ∧ (∀ i, i < 64 → (Lit.int .i64 (f i).who).wf = true ∧ (Lit.int .i64 (f i).bas).wf = true ∧ (Lit.int .i64 (f i).snc).wf = true) ∧ RdI W aL L ∧ RdI W aJ J ∧ L.length * 8 ≤ 140737488351232 ∧ J.length * 8 ≤ 140737488351232 ∧ (Lit.int .i64 sc).wf = true ∧ (Lit.int .i64 bs).wf = true := by
  unfold Value.okWide at hv
  rw [Tryd.underlying30 ] at hv
  obtain ⟨cs, rfl, _⟩ := hv
  obtain ⟨fuel, hf⟩ := h
  obtain ⟨xs, m, _, hx, hlen, hl, hfs⟩ := DataW.trod_struct Tryd.underlying30 hf
  have hlen' : cs.toList.length = 196 := by rw [cellsCa] at hlen; simpa [Value.cells] using hlen
  match xs, hl with
  | [y0, y1, y2, y3], _ =>
    have hw := hs [y0.1, y1.1, y2.1, y3.1] (by have := congrArg Prod.fst hx; simpa using this)
    have g0 : DataW.trod enc Tryd.prog W base spare held m 25 (cs.toList.take 192) = some y0 := by have g := hfs 0 _ rfl; simpa [Value.cells, cellsRo] using g
    have g1 : DataW.trod enc Tryd.prog W base spare held m 28 ((cs.toList.drop 192).take 2) = some y1 := by have g := hfs 1 _ rfl; simpa [Value.cells, cellsBt] using g
    have g2 : DataW.trod enc Tryd.prog W base spare held m 3 ((cs.toList.drop 194).take 1) = some y2 := by have g := hfs 2 _ rfl; simpa [Value.cells, cellsI] using g
    have g3 : DataW.trod enc Tryd.prog W base spare held m 3 ((cs.toList.drop 195).take 1) = some y3 := by have g := hfs 3 _ rfl; simpa [Value.cells, cellsI] using g
    obtain ⟨f, e0, wf⟩ := ro_raw g0
    obtain ⟨aL, aJ, cL, cJ, L, J, e1, rL, rJ, lL, lJ⟩ := bt_raw (sized_bt hw rfl) g1
    obtain ⟨sc, e2, ws⟩ := one_int g2
    obtain ⟨bs, e3, wb⟩ := one_int g3
    refine ⟨f, aL, aJ, cL, cJ, L, J, sc, bs, congrArg Value.agg ?_, wf, rL, rJ, lL, lJ, ws, wb⟩
    apply Array.ext'
    unfold ccs
    rw [Array.toList_append, ← e0]
    have s1 : cs.toList = cs.toList.take 192 ++ ((cs.toList.drop 192).take 2 ++ ((cs.toList.drop 194).take 1 ++ (cs.toList.drop 195).take 1)) := by
      have t1 : cs.toList = cs.toList.take 192 ++ cs.toList.drop 192 := (List.take_append_drop _ _).symm
      have t2 : cs.toList.drop 192 = (cs.toList.drop 192).take 2 ++ cs.toList.drop 194 := by
        have := (List.take_append_drop 2 (cs.toList.drop 192)).symm
        rwa [List.drop_drop] at this
      have t3 : cs.toList.drop 194 = (cs.toList.drop 194).take 1 ++ cs.toList.drop 195 := by
        have := (List.take_append_drop 1 (cs.toList.drop 194)).symm
        rwa [List.drop_drop] at this
      have t4 : cs.toList.drop 195 = (cs.toList.drop 195).take 1 := by
        rw [List.take_of_length_le]
        rw [List.length_drop]
        omega
      rw [← t4, ← t3, ← t2, ← t1]
    refine s1.trans ?_
    rw [e1, e2, e3]
    rfl
end
end Go.Proofs.YtieagbjempndnabDoor
