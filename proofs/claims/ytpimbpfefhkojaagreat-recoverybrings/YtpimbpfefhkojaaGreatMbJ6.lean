/- MbU, MbX, joined. -/
import Derived.Test.YtpimbpfefhkojaaGreatMbJ5
import Derived.LoopN
import Derived.Test.YtpimbpfefhkojaaGreatWiI
import Derived.LoopTactic
/- Contracts: the document's GoodCard, Kind, Seated, Group. -/
namespace Go.Proofs.YtpimbpfefhkojaaGreat.Mb
open Go.RowKit Go.Maps
open Rt (Ky zK gd pcs KyAt)
open Wi (gR gE gW gS gI gB gK ldM stM rd_guard ra_of th_of ra_later)
set_option linter.unusedVariables false
set_option linter.unusedSimpArgs false

theorem rGood_b (k : Ky) (w : World) : Calls Tryz.prog 29 #[.agg #[.int .i64 k.bas, .int .i64 k.stp] ] w fun e w' => e = .returned (.bool (gd k.bas k.stp)) ∧ Below w.heap.size w w' :=
  (Rt.rGood_any k.bas k.stp w).mono fun e w' h => ⟨h.1, by rw [h.2]; exact below_alloc _ _⟩
theorem koV_no1 {m : Mb} (h : mE m (outM m.who m.ep) = false) : koV m = -1 := by unfold koV; rw [h]; rfl
theorem koV_no2 {m : Mb} (h : (gW m.who && gE m.ep) = false) : koV m = -1 := by unfold koV; rw [h, Bool.and_false]; rfl
theorem koV_yes {m : Mb} (h : mE m (outM m.who m.ep) = true) (h2 : (gW m.who && gE m.ep) = true) : koV m = 1 := by unfold koV; rw [h, h2]; rfl
theorem outM_eq (w e : Int) : (#[.int .i64 w, .int .i64 0, .int .i64 e, .int .i64 0, .int .i64 0, .int .i64 0, .int .i64 0, .int .i64 0, .int .i64 0, .int .i64 0, .int .i64 0, .bool false, .bool true, .int .i64 0] : Array Value) = mba (outM w e) := rfl
theorem ka0 {W : World} {B : Nat} {m : Mb} (h : MA W B m) : W.cell? ⟨B, 5 + 0 * 2, none⟩ = some (.int .i64 m.p0.bas) ∧ W.cell? ⟨B, 5 + 0 * 2 + 1, none⟩ = some (.int .i64 m.p0.stp) := h.key.1
theorem gr_cases (m : Mb) : (knd m = 1 ∧ grE m = 20 ∧ grK m = zK) ∨ (knd m = 2 ∧ grE m = 22 ∧ grK m = zK) ∨ (knd m = 3 ∧ grE m = 0 ∧ grK m = m.p2) ∨ ((knd m = -1 ∨ knd m = 0) ∧ grE m = 30 ∧ grK m = zK) := by
  unfold grE grK
  rcases knd_cases m with h | h | h | h | h <;> rw [h] <;> simp
end Go.Proofs.YtpimbpfefhkojaaGreat.Mb
/- Contracts: the document's stands, leaves, first, Calm. -/
namespace Go.Proofs.YtpimbpfefhkojaaGreat.Mb
open Go.RowKit Go.Maps
open Rt (Ky zK gd gv Gd pcs KyAt)
open Wi (gR gE gW gS gI gB gK ldM stM rd_guard ra_of th_of ra_later RdV itl stl)
set_option linter.unusedVariables false
set_option linter.unusedSimpArgs false

theorem eqS {ops : Array Oper} {rest : List Oper} {o : Oper} {a : Act} {w : World} {Q : Exit → Act → World → Prop} {p q : Int × Int} {b : Bool} (hb : decide (p = q) = b) (x y : Operand) (ho : o.op = .binOp .eql 93 x y 93)
    (hx : a.eval x = .agg (stl p).toArray) (hy : a.eval y = .agg (stl q).toArray) (hw : Region.wanted o (yielded ops a.tmps) = true) (k : wpList Tryz.prog ops Q rest (a.put o.dst (.bool b)) w) : wpList Tryz.prog ops Q (o :: rest) a w :=
  rd_guard hw (eqS_exec hb ho hx hy) k
theorem pr_ne {p q : Int × Int} (h : ¬ p = q) : decide (p = q) = false := decide_eq_false h
/- The first item: its box, and whether there is one. -/
def zB : (Int × Int) × (Int × Int) := ((0, 0), (0, 0))
def fsB (I : List Im) (v f : Int) : (Int × Int) × (Int × Int) := (fstI I v f).getD zB
def fsO (I : List Im) (v f : Int) : Bool := (fstI I v f).isSome
def bxa (b : (Int × Int) × (Int × Int)) : Array Value := #[.int .i64 b.1.1, .int .i64 b.1.2, .int .i64 b.2.1, .int .i64 b.2.2]
def FsA (I : List Im) (v f : Int) : Ending := .returned (.tuple #[.agg (bxa (fsB I v f)), .bool (fsO I v f)])
theorem FsA.none {I : List Im} {v f : Int} (h : fstI I v f = none) : Ending.returned (.tuple #[.agg (bxa zB), .bool false]) = FsA I v f := by unfold FsA fsB fsO; rw [h]; rfl
theorem FsA.some {I : List Im} {v f : Int} {b : (Int × Int) × (Int × Int)} (h : fstI I v f = .some b) : Ending.returned (.tuple #[.agg (bxa b), .bool true]) = FsA I v f := by unfold FsA fsB fsO; rw [h]; rfl
def BA (w : World) (B : Nat) (b : (Int × Int) × (Int × Int)) : Prop := w.heap[B]? = some (.cells (bxa b) 57 (0, 0))
theorem BA.later {w w' : World} {B : Nat} {b : (Int × Int) × (Int × Int)} (h : BA w B b) (hb : Below w.heap.size w w') : BA w' B b := row_later h hb
theorem infoBx4 : (Tryz.prog.info? 57).map (·.size) = some 4 := by kernel_rfl
theorem BA.var {w : World} {B : Nat} {b : (Int × Int) × (Int × Int)} (h : BA w B b) : (loadVar 57 ⟨B, 0, none⟩).run Tryz.prog w = .ok (.agg (bxa b)) w := run_loadVar_row w B _ 57 _ _ _ h Tryz.underlying57 rfl infoBx4
theorem stBx {ops : Array Oper} {rest : List Oper} {o : Oper} {a : Act} {w : World} {Q : Exit → Act → World → Prop} {B : Nat} {b : (Int × Int) × (Int × Int)} (h : BA w B b) (n : (Int × Int) × (Int × Int)) (hgd : o.guard = none) (x y : Operand) (ho : o.op = .store 57 x y) (hx : a.eval x = .pointer (some ⟨B, 0, none⟩)) (hy : a.eval y = .agg (bxa n))
    (k : wpList Tryz.prog ops Q rest (a.put o.dst undef) (w.setRow B (bxa n))) : wpList Tryz.prog ops Q (o :: rest) a w :=
  stRow infoBx4 (cs := bxa b) rfl h (bxa n) rfl (by simp [bxa, Value.oneCell']) hgd x y ho hx hy k
theorem BA.row {w : World} {B : Nat} {b : (Int × Int) × (Int × Int)} (h : BA w B b) (n : (Int × Int) × (Int × Int)) : BA (w.setRow B (bxa n)) B n := Rt.heap_setRow_same h _
theorem BA.cells {w : World} {B : Nat} {b : (Int × Int) × (Int × Int)} (h : BA w B b) : w.cell? ⟨B, 0, none⟩ = some (.int .i64 b.1.1) ∧ w.cell? ⟨B, 1, none⟩ = some (.int .i64 b.1.2) ∧ w.cell? ⟨B, 2, none⟩ = some (.int .i64 b.2.1) ∧ w.cell? ⟨B, 3, none⟩ = some (.int .i64 b.2.2) := ⟨cell_of_row w B 0 _ _ _ h, cell_of_row w B 1 _ _ _ h, cell_of_row w B 2 _ _ _ h, cell_of_row w B 3 _ _ _ h⟩
structure SFs (w W : World) (D K : Nat) (r : Rk) (aL aJ aI : Option Addr) (cL cJ cI : Nat) : Prop where
  rk : RK W D r aL aJ aI cL cJ cI
  re : BA W K zB
  rd : RL W r aL aJ aI
  bel : Below w.heap.size w W
  ge : w.heap.size ≤ K
section
variable {w W W' : World} {D K : Nat} {r : Rk} {aL aJ aI : Option Addr} {cL cJ cI : Nat}
theorem SFs.later (h : SFs w W D K r aL aJ aI cL cJ cI) (hb : Below W.heap.size W W') : SFs w W' D K r aL aJ aI cL cJ cI := ⟨h.rk.later hb, h.re.later hb, h.rd.later hb, h.bel.trans (hb.mono h.bel.size), h.ge⟩
theorem SFs.new (w : World) (hr : RL w r aL aJ aI) : SFs w ((w.alloc (.cells (rka r aL aJ aI cL cJ cI) 49)).alloc (.cells (bxa zB) 57)) w.heap.size (w.heap.size + 1) r aL aJ aI cL cJ cI := by
  have h2 : RK (w.alloc (.cells (rka r aL aJ aI cL cJ cI) 49)) w.heap.size r aL aJ aI cL cJ cI := heap_alloc_last w _
  have hb1 := below_alloc w (.cells (rka r aL aJ aI cL cJ cI) 49)
  have e1 : (w.alloc (.cells (rka r aL aJ aI cL cJ cI) 49)).heap.size = w.heap.size + 1 := by rw [World.size_alloc]
  generalize w.alloc (.cells (rka r aL aJ aI cL cJ cI) 49) = w1 at *
  have h3 : BA (w1.alloc (.cells (bxa zB) 57)) w1.heap.size zB := heap_alloc_last w1 _
  have hb2 := below_alloc w1 (.cells (bxa zB) 57)
  rw [e1] at h3
  have b := Wi.Below.join hb1 hb2
  exact ⟨h2.later hb2, h3, hr.later b, b, by omega⟩
end
end Go.Proofs.YtpimbpfefhkojaaGreat.Mb
