/- MbF, MbK, joined. -/
import Derived.Test.YtpimbpfefhkojaaGreatMbJ1
import Derived.Test.YtpimbpfefhkojaaGreatPlJ6
import Derived.Test.YtpimbpfefhkojaaGreatWiJ2
import Derived.Test.YtpimbpfefhkojaaGreatMbJ2
import Derived.LoopN
/- Contracts: arrive. -/
namespace Go.Proofs.YtpimbpfefhkojaaGreat.Mb
open Go.RowKit Go.Maps
open Rt (Ky zK gd pcs KyAt)
open Wi (gR gE gW gS gI gB gK ldM stM rd_guard ra_of th_of ra_later)
set_option linter.unusedVariables false
set_option linter.unusedSimpArgs false

def PAt (w : World) (B : Nat) (a b c : Ky) : Prop := w.heap[B]? = some (.cells (pal a b c).toArray 37 (0, 0))
theorem PAt.all {w : World} {B : Nat} {a b c : Ky} (h : PAt w B a b c) : w.rangeAt B 0 (pal a b c) := ra_of h 0 (pal a b c) rfl
theorem PAt.later {w w' : World} {B : Nat} {a b c : Ky} (h : PAt w B a b c) (hb : Below w.heap.size w w') : PAt w' B a b c := row_later h hb
structure SA (w W : World) (B L P K : Nat) (m n : Mb) (l a b c : Ky) : Prop where
  mb : MA W B m
  ky : KyAt W L l
  pa : PAt W P a b c
  re : MA W K n
  bel : Below w.heap.size w W
  gb : w.heap.size ≤ B
  ge : w.heap.size ≤ K
  ne : B ≠ K
theorem SA.later {w W W' : World} {B L P K : Nat} {m n : Mb} {l a b c : Ky} (h : SA w W B L P K m n l a b c) (hb : Below W.heap.size W W') : SA w W' B L P K m n l a b c :=
  ⟨h.mb.later hb, h.ky.later hb, h.pa.later hb, h.re.later hb, h.bel.trans (hb.mono h.bel.size), h.gb, h.ge, h.ne⟩
theorem SA.new (w : World) (m n : Mb) (l a b c : Ky) : SA w ((((w.alloc (.cells (mba m) 39)).alloc (.cells #[.int .i64 l.bas, .int .i64 l.stp] 23)).alloc (.cells (pal a b c).toArray 37)).alloc (.cells (mba n) 39)) w.heap.size (w.heap.size + 1) (w.heap.size + 2) (w.heap.size + 3) m n l a b c := by
  have h1 := MA.new w m
  have hb1 := below_alloc w (.cells (mba m) 39)
  have e1 : (w.alloc (.cells (mba m) 39)).heap.size = w.heap.size + 1 := by rw [World.size_alloc]
  generalize w.alloc (.cells (mba m) 39) = w1 at *
  have h2 := KyAt.new w1 l
  have hb2 := below_alloc w1 (.cells #[.int .i64 l.bas, .int .i64 l.stp] 23)
  have e2 : (w1.alloc (.cells #[.int .i64 l.bas, .int .i64 l.stp] 23)).heap.size = w.heap.size + 2 := by rw [World.size_alloc, e1]
  rw [e1] at h2
  generalize w1.alloc (.cells #[.int .i64 l.bas, .int .i64 l.stp] 23) = w2 at *
  have h3 : PAt (w2.alloc (.cells (pal a b c).toArray 37)) w2.heap.size a b c := heap_alloc_last w2 _
  have hb3 := below_alloc w2 (.cells (pal a b c).toArray 37)
  have e3 : (w2.alloc (.cells (pal a b c).toArray 37)).heap.size = w.heap.size + 3 := by rw [World.size_alloc, e2]
  rw [e2] at h3
  generalize w2.alloc (.cells (pal a b c).toArray 37) = w3 at *
  have h4 := MA.new w3 n
  have hb4 := below_alloc w3 (.cells (mba n) 39)
  rw [e3] at h4
  have b34 := Wi.Below.join hb3 hb4
  have b24 := Wi.Below.join hb2 b34
  have b14 := Wi.Below.join hb1 b24
  exact ⟨h1.later b24, h2.later b34, h3.later hb4, h4, b14, by omega, by omega, by omega⟩
structure SR (w W : World) (B L P K : Nat) (l a b c : Ky) : Prop where
  ky : KyAt W L l
  pa : PAt W P a b c
  re : MA W K zMb
  bel : Below w.heap.size w W
  gb : w.heap.size ≤ B
  ne : B ≠ K
  nl : B ≠ L
  np : B ≠ P
theorem SR.set {w W : World} {B L P K : Nat} {l a b c : Ky} (h : SR w W B L P K l a b c) (k : Nat) (v : Value) : SR w (W.setCell ⟨B, k, none⟩ v) B L P K l a b c :=
  ⟨(Rt.other_setCell (Ne.symm h.nl) _ _).trans h.ky, (Rt.other_setCell (Ne.symm h.np) _ _).trans h.pa, (Rt.other_setCell (Ne.symm h.ne) _ _).trans h.re, h.bel.setCell (p := ⟨B, k, none⟩) h.gb v, h.gb, h.ne, h.nl, h.np⟩
theorem arr_row (m : Mb) (e : Int) (l a b c : Ky) : ((((((((((mba m).setIfInBounds 2 (.int .i64 e)).setIfInBounds 3 (.int .i64 l.bas)).setIfInBounds 4 (.int .i64 l.stp)).setIfInBounds 5 (.int .i64 a.bas)).setIfInBounds 6 (.int .i64 a.stp)).setIfInBounds 7 (.int .i64 b.bas)).setIfInBounds 8 (.int .i64 b.stp)).setIfInBounds 9 (.int .i64 c.bas)).setIfInBounds 10 (.int .i64 c.stp)).setIfInBounds 11 (.bool true) = mba ⟨m.who, m.slt, e, l, a, b, c, true, m.out, m.bh⟩ := by kernel_rfl
end Go.Proofs.YtpimbpfefhkojaaGreat.Mb
/- Contracts: climb, with each of its two closures (made by wip/mk_climb.py). -/
namespace Go.Proofs.YtpimbpfefhkojaaGreat.Mb
open Go.RowKit Go.Maps
open Rt (Ky zK gd gv Gd pcs KyAt)
open Wi (gR gE gW gS gI gB gK ldM stM rd_guard ra_of th_of ra_later RdV itl stl)
set_option linter.unusedVariables false
set_option linter.unusedSimpArgs false

def clE (x y z : Int × Ky) : Int := if x.1 = 0 then (if y.1 = 0 then z.1 else y.1) else x.1
def clK (x y z : Int × Ky) (k : Ky) : Ky := if clE x y z = 0 then k else zK
def CliA (x y z : Int × Ky) : Ending := .returned (.tuple #[.agg (pal (clK x y z x.2) (clK x y z y.2) (clK x y z z.2)).toArray, .int .i64 (clE x y z)])
theorem CliA.no {x y z : Int × Ky} {e : Int} (h : clE x y z = e) (h0 : e ≠ 0) : Ending.returned (.tuple #[.agg (pal zK zK zK).toArray, .int .i64 e]) = CliA x y z := by unfold CliA clK; rw [h, if_neg h0, if_neg h0, if_neg h0]
theorem CliA.yes {x y z : Int × Ky} (h : clE x y z = 0) : Ending.returned (.tuple #[.agg (pal x.2 y.2 z.2).toArray, .int .i64 0]) = CliA x y z := by unfold CliA clK; rw [h, if_pos rfl, if_pos rfl, if_pos rfl]
theorem path_nd (s : Int) (h0 : 0 ≤ s) (h1 : s < 64) (w : World) : Calls Tryz.prog 74 #[.int .i64 s] w fun e w' => e = .returned (.tuple #[.agg #[.int .i64 (nd s 0), .int .i64 (nd s 1), .int .i64 (nd s 2)], .bool true]) ∧ Below w.heap.size w w' := by
  have h := Sh.path_yes s h0 h1 w
  have e0 : nd s 0 = 5 + s / 4 := by unfold nd pn; rw [if_pos rfl]; omega
  have e1 : nd s 1 = 1 + s / 16 := by unfold nd pn; rw [if_neg (by decide), if_pos rfl]; omega
  have e2 : nd s 2 = 0 := rfl
  rw [e0, e1, e2]
  exact h
theorem jx0 (a b c : Value) (w : World) : (Instr.index 69 (.agg #[a, b, c]) (.int .i64 0)).run Tryz.prog w = .ok a w := by kernel_rfl
theorem jx1 (a b c : Value) (w : World) : (Instr.index 69 (.agg #[a, b, c]) (.int .i64 1)).run Tryz.prog w = .ok b w := by kernel_rfl
theorem jx2 (a b c : Value) (w : World) : (Instr.index 69 (.agg #[a, b, c]) (.int .i64 2)).run Tryz.prog w = .ok c w := by kernel_rfl
theorem PAt.var {w : World} {B : Nat} {a b c : Ky} (h : PAt w B a b c) : (loadVar 37 ⟨B, 0, none⟩).run Tryz.prog w = .ok (.agg (pal a b c).toArray) w := run_loadVar_row w B _ 37 _ _ _ h Tryz.underlying37 rfl szPath
theorem PAt.row {w : World} {B : Nat} {a b c : Ky} (h : PAt w B a b c) (d e f : Ky) : PAt (w.setRow B (pal d e f).toArray) B d e f := Rt.heap_setRow_same h _
theorem pal_one (a b c : Ky) : (pal a b c).toArray.all (·.oneCell') = true := by simp [pal, Value.oneCell']
theorem stPa {ops : Array Oper} {rest : List Oper} {o : Oper} {ac : Act} {w : World} {Q : Exit → Act → World → Prop} {B : Nat} {a b c : Ky} (h : PAt w B a b c) (d e f : Ky) (hgd : o.guard = none) (x y : Operand) (ho : o.op = .store 37 x y) (hx : ac.eval x = .pointer (some ⟨B, 0, none⟩)) (hy : ac.eval y = .agg (pal d e f).toArray)
    (k : wpList Tryz.prog ops Q rest (ac.put o.dst undef) (w.setRow B (pal d e f).toArray)) : wpList Tryz.prog ops Q (o :: rest) ac w :=
  stRow szPath (cs := (pal a b c).toArray) rfl h (pal d e f).toArray rfl (pal_one d e f) hgd x y ho hx hy k
theorem ldPt {ops : Array Oper} {rest : List Oper} {o : Oper} {ac : Act} {w : World} {Q : Exit → Act → World → Prop} {B : Nat} {a b c : Ky} (h : PAt w B a b c) (x : Operand) (ho : o.op = .load 37 x) (hx : ac.eval x = .pointer (some ⟨B, 0, none⟩)) (hw : Region.wanted o (yielded ops ac.tmps) = true)
    (k : wpList Tryz.prog ops Q rest (ac.put o.dst (.agg (pal a b c).toArray)) w) : wpList Tryz.prog ops Q (o :: rest) ac w := ldM h.all Tryz.underlying37 rfl szPath x ho hx hw k
theorem PAt.cells {w : World} {B : Nat} {a b c : Ky} (h : PAt w B a b c) : (w.cell? ⟨B, 0, none⟩ = some (.int .i64 a.bas) ∧ w.cell? ⟨B, 1, none⟩ = some (.int .i64 a.stp)) ∧ (w.cell? ⟨B, 2, none⟩ = some (.int .i64 b.bas) ∧ w.cell? ⟨B, 3, none⟩ = some (.int .i64 b.stp)) ∧ w.cell? ⟨B, 4, none⟩ = some (.int .i64 c.bas) ∧ w.cell? ⟨B, 5, none⟩ = some (.int .i64 c.stp) :=
  ⟨⟨cell_of_row w B 0 _ _ _ h, cell_of_row w B 1 _ _ _ h⟩, ⟨cell_of_row w B 2 _ _ _ h, cell_of_row w B 3 _ _ _ h⟩, cell_of_row w B 4 _ _ _ h, cell_of_row w B 5 _ _ _ h⟩
theorem PAt.set0 {w : World} {B : Nat} {a b c : Ky} (h : PAt w B a b c) (x : Ky) : PAt ((w.setCell ⟨B, 0, none⟩ (.int .i64 x.bas)).setCell ⟨B, 1, none⟩ (.int .i64 x.stp)) B x b c := Rt.row_setCell (Rt.row_setCell h 0 (.int .i64 x.bas)) 1 (.int .i64 x.stp)
theorem PAt.set1 {w : World} {B : Nat} {a b c : Ky} (h : PAt w B a b c) (x : Ky) : PAt ((w.setCell ⟨B, 2, none⟩ (.int .i64 x.bas)).setCell ⟨B, 3, none⟩ (.int .i64 x.stp)) B a x c := Rt.row_setCell (Rt.row_setCell h 2 (.int .i64 x.bas)) 3 (.int .i64 x.stp)
theorem PAt.set2 {w : World} {B : Nat} {a b c : Ky} (h : PAt w B a b c) (x : Ky) : PAt ((w.setCell ⟨B, 4, none⟩ (.int .i64 x.bas)).setCell ⟨B, 5, none⟩ (.int .i64 x.stp)) B a b x := Rt.row_setCell (Rt.row_setCell h 4 (.int .i64 x.bas)) 5 (.int .i64 x.stp)
theorem two_other {w : World} {A B : Nat} {o : Option Obj} (h : w.heap[A]? = o) (hne : A ≠ B) (i j : Nat) (u v : Value) : ((w.setCell ⟨B, i, none⟩ u).setCell ⟨B, j, none⟩ v).heap[A]? = o := by rw [Rt.other_setCell hne, Rt.other_setCell hne]; exact h
theorem two_bel {n : Nat} {w W : World} (h : Below n w W) {B : Nat} (hB : n ≤ B) (i j : Nat) (u v : Value) : Below n w ((W.setCell ⟨B, i, none⟩ u).setCell ⟨B, j, none⟩ v) := (h.setCell (p := ⟨B, i, none⟩) hB u).setCell (p := ⟨B, j, none⟩) hB v
structure CL (w W : World) (K Y P : Nat) (k a b c : Ky) : Prop where
  re : PAt W K zK zK zK
  ky : KyAt W Y k
  pa : PAt W P a b c
  bel : Below w.heap.size w W
  gK : w.heap.size ≤ K
  gY : w.heap.size ≤ Y
  gP : w.heap.size ≤ P
  ne : K ≠ P
theorem CL.later {w W W' : World} {K Y P : Nat} {k a b c : Ky} (h : CL w W K Y P k a b c) (hb : Below W.heap.size W W') : CL w W' K Y P k a b c := ⟨h.re.later hb, h.ky.later hb, h.pa.later hb, h.bel.trans (hb.mono h.bel.size), h.gK, h.gY, h.gP, h.ne⟩
structure C0 (w W : World) (A K : Nat) (k : Ky) : Prop where
  ky : KyAt W A k
  re : PAt W K zK zK zK
  bel : Below w.heap.size w W
  ge : w.heap.size ≤ K
theorem C0.later {w W W' : World} {A K : Nat} {k : Ky} (h : C0 w W A K k) (hb : Below W.heap.size W W') : C0 w W' A K k := ⟨h.ky.later hb, h.re.later hb, h.bel.trans (hb.mono h.bel.size), h.ge⟩
theorem C0.new (w : World) (k : Ky) : C0 w ((w.alloc (.cells #[.int .i64 k.bas, .int .i64 k.stp] 23)).alloc (.cells (pal zK zK zK).toArray 37)) w.heap.size (w.heap.size + 1) k := by
  have h2 : PAt ((w.alloc (.cells #[.int .i64 k.bas, .int .i64 k.stp] 23)).alloc (.cells (pal zK zK zK).toArray 37)) (w.alloc (.cells #[.int .i64 k.bas, .int .i64 k.stp] 23)).heap.size zK zK zK := heap_alloc_last _ _
  rw [World.size_alloc] at h2
  exact ⟨(KyAt.new w k).later (below_alloc _ _), h2, Wi.Below.plus (below_alloc _ _) _, by omega⟩
theorem pz_eq : (#[.int .i64 0, .int .i64 0, .int .i64 0, .int .i64 0, .int .i64 0, .int .i64 0] : Array Value) = (pal zK zK zK).toArray := rfl
theorem cl_1 {x y z : Int × Ky} {e : Int} (h : x.1 = e) (h0 : e ≠ 0) : clE x y z = e := by unfold clE; rw [h, if_neg h0]
theorem cl_2 {x y z : Int × Ky} {e : Int} (h1 : x.1 = 0) (h : y.1 = e) (h0 : e ≠ 0) : clE x y z = e := by unfold clE; rw [if_pos h1, h, if_neg h0]
theorem cl_3 {x y z : Int × Ky} {e : Int} (h1 : x.1 = 0) (h2 : y.1 = 0) (h : z.1 = e) : clE x y z = e := by unfold clE; rw [if_pos h1, if_pos h2, h]
end Go.Proofs.YtpimbpfefhkojaaGreat.Mb
