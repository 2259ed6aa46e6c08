/- RqA, RqB, RqC, joined. -/
import Derived.Test.YtpimbpfefhkojabGreatDoorTrJ2
import Derived.Test.YtpimbpfefhkojabGreatDoorTrN
import Derived.Test.YtpimbpfefhkojabGreatDoorTrQ
import Derived.Test.YtpimbpfefhkojabGreatDoorTrJ3
import Derived.Test.YtpimbpfefhkojabGreatDoorTrD
import Derived.Test.YtpimbpfefhkojabGreatDoorKeyJ
import Derived.Test.YtpimbpfefhkojabGreatDoorPlJ1
import Derived.Test.YtpimbpfefhkojabGreatDoorPlD
import Derived.Deep.MidRow
import Derived.Deep.WholeRow
import Derived.Deep.DeepCutAuto
import Derived.BigRegion
namespace Go.Proofs.YtpimbpfefhkojabGreatDoor.Rq
open Go.RowKit Go.Maps
open Rt (Ky zK gd Gd gd_iff pcs KyAt)
open Rs (tkn fnd)
set_option linter.unusedVariables false
set_option linter.unusedSimpArgs false

theorem Below.join {w0 w w' : World} (h : Below w0.heap.size w0 w) (hb : Below w.heap.size w w') : Below w0.heap.size w0 w' := h.trans (hb.mono h.size)
theorem Below.plus {w0 w : World} (h : Below w0.heap.size w0 w) (o : Obj) : Below w0.heap.size w0 (w.alloc o) := h.alloc h.size _
theorem row_set {w : World} {B : Nat} {cs : Array Value} {t : TypeId} (h : w.heap[B]? = some (.cells cs t (0, 0))) (k : Nat) (v : Value) : (w.setCell ⟨B, k, none⟩ v).heap[B]? = some (.cells (cs.setIfInBounds k v) t (0, 0)) := by
  simp only [World.setCell, Array.getElem?_modify]
  rw [if_pos trivial, h]
  rfl
theorem other_set {w : World} {B C : Nat} (h : C ≠ B) (k : Nat) (v : Value) : (w.setCell ⟨B, k, none⟩ v).heap[C]? = w.heap[C]? := by
  simp only [World.setCell, Array.getElem?_modify]
  rw [if_neg (fun e => h e.symm)]
theorem row_fr {w : World} {B : Nat} {cs : Array Value} {t : TypeId} (h : w.heap[B]? = some (.cells cs t (0, 0))) (k : Nat) : w.frozen? ⟨B, k, none⟩ = false := by simp [World.frozen?, h]
theorem row_lt {w : World} {B : Nat} {o : Obj} (h : w.heap[B]? = some o) : B < w.heap.size := (Array.getElem?_eq_some_iff.1 h).1
theorem ldM {w : World} {ops : Array Oper} {rest : List Oper} {o : Oper} {a : Act} {Q : Exit → Act → World → Prop} {B off : Nat} {T : TypeId} {d : TypeDesc} {cs : List Value} (hc : w.rangeAt B off cs) (hu : Tryz.prog.underlying T = some d) (hd : d.isRow = true)
    (hi : (Tryz.prog.info? T).map (·.size) = some cs.length) (x : Operand) (ho : o.op = .load T x) (hx : a.eval x = .pointer (some ⟨B, off, none⟩)) (hw : Region.wanted o (yielded ops a.tmps) = true)
    (k : wpList Tryz.prog ops Q rest (a.put o.dst (.agg cs.toArray)) w) : wpList Tryz.prog ops Q (o :: rest) a w := by
  refine rd_guard hw ?_ k
  have h := run_loadAt_mid w B off T cs d hc hu hd hi
  simp [execOp, ho, hx, h, Sem.run_bind, Result.andThen]
theorem stM {w : World} {ops : Array Oper} {rest : List Oper} {o : Oper} {a : Act} {Q : Exit → Act → World → Prop} {B off : Nat} {T : TypeId} {cs : List Value} (ht : w.there B off cs.length) (hi : (Tryz.prog.info? T).map (·.size) = some cs.length) (h1 : cs.all (·.oneCell') = true) (hgd : o.guard = none)
    (x y : Operand) (ho : o.op = .store T x y) (hx : a.eval x = .pointer (some ⟨B, off, none⟩)) (hy : a.eval y = .agg cs.toArray)
    (k : wpList Tryz.prog ops Q rest (a.put o.dst undef) (w.setCells B off cs)) : wpList Tryz.prog ops Q (o :: rest) a w :=
  wpList_store_mid hgd T x y ho B off cs.toArray hx hy (by simpa using ht) (by simpa using hi) (by simpa using h1) (by simpa using k)
def upd : Array Value → Nat → List Value → Array Value
  | cs, _, [] => cs
  | cs, o, v :: r => upd (cs.setIfInBounds o v) (o + 1) r
theorem row_upd {B : Nat} {t : TypeId} : ∀ (vs : List Value) (o : Nat) {w : World} {cs : Array Value}, w.heap[B]? = some (.cells cs t (0, 0)) → (w.setCells B o vs).heap[B]? = some (.cells (upd cs o vs) t (0, 0))
  | [], o, w, cs, h => h
  | v :: r, o, w, cs, h => by
    rw [World.setCells, upd]
    exact row_upd r (o + 1) (row_set h o v)
theorem other_upd {B C : Nat} (hne : C ≠ B) : ∀ (vs : List Value) (o : Nat) {w : World}, (w.setCells B o vs).heap[C]? = w.heap[C]?
  | [], o, w => rfl
  | v :: r, o, w => by
    rw [World.setCells]
    exact (other_upd hne r (o + 1)).trans (other_set hne o v)
theorem upd_below {B N : Nat} (hB : N ≤ B) : ∀ (vs : List Value) (o : Nat) {w0 w : World}, Below N w0 w → Below N w0 (w.setCells B o vs)
  | [], o, w0, w, h => h
  | v :: r, o, w0, w, h => by
    rw [World.setCells]
    exact upd_below hB r (o + 1) (h.setCell (p := ⟨B, o, none⟩) hB v)
theorem ra_of {w : World} {B : Nat} {cs : Array Value} {t : TypeId} {fz : Nat × Nat} (h : w.heap[B]? = some (.cells cs t fz)) (o : Nat) (ds : List Value) (e : (cs.toList.drop o).take ds.length = ds) : w.rangeAt B o ds := fun j v hv => by
  rw [cell_of_row w B (o + j) cs t fz h]
  have hj : j < ds.length := (List.getElem?_eq_some_iff.1 hv).1
  rw [← e, List.getElem?_take_of_lt hj, List.getElem?_drop] at hv
  simpa using hv
theorem th_of {w : World} {B : Nat} {cs : Array Value} {t : TypeId} (h : w.heap[B]? = some (.cells cs t (0, 0))) (o n : Nat) (e : o + n ≤ cs.size) : w.there B o n := fun j hj => by
  refine ⟨?_, row_fr h _⟩
  rw [cell_of_row w B (o + j) cs t _ h, Array.getElem?_eq_getElem (by omega)]
  rfl
def bxl (b : (Int × Int) × (Int × Int)) : List Value := [.int .i64 b.1.1, .int .i64 b.1.2, .int .i64 b.2.1, .int .i64 b.2.2]
abbrev Rp := (Int × Int) × (Int × (((Int × Int) × (Int × Int)) × (((Int × Int) × (Int × Int)) × ((Int × Int) × (Int × Int)))))
def rpl (p : Rp) : List Value :=
  [.int .i64 p.1.1, .int .i64 p.1.2, .int .i64 p.2.1, .int .i64 p.2.2.1.1.1, .int .i64 p.2.2.1.1.2, .int .i64 p.2.2.1.2.1, .int .i64 p.2.2.1.2.2, .int .i64 p.2.2.2.1.1.1, .int .i64 p.2.2.2.1.1.2, .int .i64 p.2.2.2.1.2.1, .int .i64 p.2.2.2.1.2.2, .int .i64 p.2.2.2.2.1.1, .int .i64 p.2.2.2.2.1.2, .int .i64 p.2.2.2.2.2.1, .int .i64 p.2.2.2.2.2.2]
def zP : Rp := ((0, 0), 0, ((0, 0), (0, 0)), ((0, 0), (0, 0)), ((0, 0), (0, 0)))
theorem szBox : (Tryz.prog.info? 33).map (·.size) = some 4 := by kernel_rfl
def gW (x : Int) : Bool := decide (0 ≤ x) && decide (x < 256)
theorem gW_iff {x : Int} : gW x = true ↔ 0 ≤ x ∧ x < 256 := by simp [gW]
/- States. -/
structure Mb where
  who : Int
  slt : Int
  ep : Int
  lf : Ky
  p0 : Ky
  p1 : Ky
  p2 : Ky
  has : Bool
def zMb : Mb := ⟨0, 0, 0, zK, zK, zK, zK, false⟩
def gk (k : Ky) : Bool := gd k.bas k.stp
def pal (a b c : Ky) : List Value := [.int .i64 a.bas, .int .i64 a.stp, .int .i64 b.bas, .int .i64 b.stp, .int .i64 c.bas, .int .i64 c.stp]
def mbl (m : Mb) : List Value := [.int .i64 m.who, .int .i64 m.slt, .int .i64 m.ep, .int .i64 m.lf.bas, .int .i64 m.lf.stp, .int .i64 m.p0.bas, .int .i64 m.p0.stp, .int .i64 m.p1.bas, .int .i64 m.p1.stp, .int .i64 m.p2.bas, .int .i64 m.p2.stp, .bool m.has, .bool false, .int .i64 0]
def mba (m : Mb) : Array Value := (mbl m).toArray
theorem mba_one (m : Mb) : (mba m).all (·.oneCell') = true := by simp [mba, mbl, Value.oneCell']
theorem szPath : (Tryz.prog.info? 72).map (·.size) = some 6 := by kernel_rfl
def MA (w : World) (B : Nat) (m : Mb) : Prop := w.heap[B]? = some (.cells (mba m) 74 (0, 0))
theorem MA.lt {w : World} {B : Nat} {m : Mb} (h : MA w B m) : B < w.heap.size := row_lt h
theorem MA.later {w w' : World} {B : Nat} {m : Mb} (h : MA w B m) (hb : Below w.heap.size w w') : MA w' B m := row_later h hb
theorem MA.new (w : World) (m : Mb) : MA (w.alloc (.cells (mba m) 74)) w.heap.size m := heap_alloc_last w _
theorem MA.all {w : World} {B : Nat} {m : Mb} (h : MA w B m) : w.rangeAt B 0 (mbl m) := ra_of h 0 (mbl m) rfl
theorem MA.path {w : World} {B : Nat} {m : Mb} (h : MA w B m) : w.rangeAt B 5 (pal m.p0 m.p1 m.p2) := ra_of h 5 (pal m.p0 m.p1 m.p2) rfl
theorem MA.leaf {w : World} {B : Nat} {m : Mb} (h : MA w B m) : w.cell? ⟨B, 3, none⟩ = some (.int .i64 m.lf.bas) ∧ w.cell? ⟨B, 4, none⟩ = some (.int .i64 m.lf.stp) := ⟨cell_of_row w B 3 _ _ _ h, cell_of_row w B 4 _ _ _ h⟩
theorem MA.who {w : World} {B : Nat} {m : Mb} (h : MA w B m) : w.cell? ⟨B, 0, none⟩ = some (.int .i64 m.who) := cell_of_row w B 0 _ _ _ h
theorem MA.slt {w : World} {B : Nat} {m : Mb} (h : MA w B m) : w.cell? ⟨B, 1, none⟩ = some (.int .i64 m.slt) := cell_of_row w B 1 _ _ _ h
theorem MA.ep {w : World} {B : Nat} {m : Mb} (h : MA w B m) : w.cell? ⟨B, 2, none⟩ = some (.int .i64 m.ep) := cell_of_row w B 2 _ _ _ h
theorem MA.key {w : World} {B : Nat} {m : Mb} (h : MA w B m) : (w.cell? ⟨B, 5, none⟩ = some (.int .i64 m.p0.bas) ∧ w.cell? ⟨B, 6, none⟩ = some (.int .i64 m.p0.stp)) ∧ (w.cell? ⟨B, 7, none⟩ = some (.int .i64 m.p1.bas) ∧ w.cell? ⟨B, 8, none⟩ = some (.int .i64 m.p1.stp)) ∧ w.cell? ⟨B, 9, none⟩ = some (.int .i64 m.p2.bas) ∧ w.cell? ⟨B, 10, none⟩ = some (.int .i64 m.p2.stp) :=
  ⟨⟨cell_of_row w B 5 _ _ _ h, cell_of_row w B 6 _ _ _ h⟩, ⟨cell_of_row w B 7 _ _ _ h, cell_of_row w B 8 _ _ _ h⟩, cell_of_row w B 9 _ _ _ h, cell_of_row w B 10 _ _ _ h⟩
theorem ldMb {ops : Array Oper} {rest : List Oper} {o : Oper} {a : Act} {w : World} {Q : Exit → Act → World → Prop} {B : Nat} {m : Mb} {cm : Array Value} (h : MA w B m) (h1 : mba m = cm) (x : Operand) (ho : o.op = .load 74 x) (hx : a.eval x = .pointer (some ⟨B, 0, none⟩)) (hw : Region.wanted o (yielded ops a.tmps) = true)
    (k : wpList Tryz.prog ops Q rest (a.put o.dst (.agg cm)) w) : wpList Tryz.prog ops Q (o :: rest) a w := by
  subst h1
  exact ldM h.all Tryz.underlying74 rfl infoMb x ho hx hw k
theorem stMn {ops : Array Oper} {rest : List Oper} {o : Oper} {a : Act} {w : World} {Q : Exit → Act → World → Prop} {n : Mb} {cn : Array Value} (h1 : mba n = cn) (hgd : o.guard = none) (x y : Operand) (ho : o.op = .store 74 x y) (hx : a.eval x = .pointer (some ⟨w.heap.size, 0, none⟩)) (hy : a.eval y = .agg cn)
    (k : wpList Tryz.prog ops Q rest (a.put o.dst undef) (w.alloc (.cells cn 74))) : wpList Tryz.prog ops Q (o :: rest) a (w.alloc (.cells (mba zMb) 74)) := by
  subst h1
  refine stRow infoMb (cs := mba zMb) rfl (MA.new w zMb) (mba n) rfl (mba_one n) hgd x y ho hx hy ?_
  rw [World.setRow_alloc_new]
  exact k
theorem ldPa {ops : Array Oper} {rest : List Oper} {o : Oper} {a : Act} {w : World} {Q : Exit → Act → World → Prop} {B : Nat} {m : Mb} (h : MA w B m) (x : Operand) (ho : o.op = .load 72 x) (hx : a.eval x = .pointer (some ⟨B, 5, none⟩)) (hw : Region.wanted o (yielded ops a.tmps) = true)
    (k : wpList Tryz.prog ops Q rest (a.put o.dst (.agg (pal m.p0 m.p1 m.p2).toArray)) w) : wpList Tryz.prog ops Q (o :: rest) a w := ldM h.path Tryz.underlying72 rfl szPath x ho hx hw k
def sdT (t : Tr) (x : Int) : Mb := ⟨caW t x, caS t x, caP t x, caK t x, caQ t x 0, caQ t x 1, caQ t x 2, decide (caE t x = 0)⟩
theorem stand_p (t : Tr) (x : Int) (w : World) : Calls Tryz.prog 16 #[.agg (tcs t), .int .i64 x] w fun e w' => e = .returned (.tuple #[.agg (mba (sdT t x)), .int .i64 (caE t x)]) ∧ Below w.heap.size w w' := stand_any t x w
theorem stand_r (t : Tr) (x : Int) (w : World) : Calls Tryz.prog 20 #[.agg (tcs t), .int .i64 x] w fun e w' => e = .returned (.tuple #[.agg (mba (sdT t x)), .int .i64 (caE t x)]) ∧ Below w.heap.size w w' := rStand_any t x w
/- Who is on. -/
theorem on_at {t : Tr} {x : Int} (h : caE t x = 0) : tck t = true ∧ ∃ s : Nat, s < 64 ∧ fnd t.ro x = (s : Int) ∧ tkn (t.ro s) = true ∧ (t.ro s).who = x := by
  unfold caE at h
  by_cases ht : tck t = true
  · refine ⟨ht, ?_⟩
    rw [if_pos ht] at h
    rcases fnd_at t.ro x with hf | ⟨s, hs, hf, hk, hw⟩
    · rw [hf, if_pos (by decide)] at h; cases h
    · exact ⟨s, hs, hf, hk, hw⟩
  · rw [if_neg ht] at h; cases h
theorem on_keys {t : Tr} {x : Int} (ht : tck t = true) (h : caE t x = 0) {s : Nat} (hs : s < 64) (hf : fnd t.ro x = (s : Int)) (hk : tkn (t.ro s) = true) : (koE t ((21 + s : Nat) : Int) = 0 ∧ caK t x = kyA t (21 + s)) ∧ ∀ i, caQ t x i = t.ks (pn s i) := by
  obtain ⟨k0, _⟩ := koK_leaf ht hs hk
  refine ⟨⟨k0, ?_⟩, fun i => ?_⟩
  · unfold caK
    rw [if_pos h, hf, kyA_ko ht (by omega) k0]
    push_cast
    rfl
  · unfold caQ
    rw [if_pos h, hf, Int.toNat_natCast]
theorem on_good {t : Tr} {x : Int} (h : caE t x = 0) : gk (caK t x) = true ∧ gk (caQ t x 0) = true ∧ gk (caQ t x 1) = true ∧ gk (caQ t x 2) = true := by
  obtain ⟨ht, s, hs, hf, hk, _⟩ := on_at h
  obtain ⟨⟨k0, e⟩, q⟩ := on_keys ht h hs hf hk
  have g : ∀ i, gk (caQ t x i) = true := fun i => by rw [q]; exact gd_iff.2 (ks_gd ht (pn_lt hs i))
  exact ⟨by rw [e]; exact gd_iff.2 (ko_gd ht (by omega) k0), g 0, g 1, g 2⟩
/- What is answered. -/
def kp (k : Ky) : Int × Int := (k.bas, k.stp)
def bx (u l : Ky) : (Int × Int) × (Int × Int) := (kp u, kp l)
def rpOf (m : Mb) : Rp := ((m.who, m.slt), (m.ep, (bx m.lf m.p0, (bx m.lf m.p1, bx m.lf m.p2))))
def anE (t : Tr) (x e : Int) : Int := if tck t then (if gW x then (if caE t x = 0 then (if 1 ≤ e ∧ e ≤ t.ep then 0 else 32) else 16) else 14) else 31
def anP (t : Tr) (x e : Int) : Rp := if anE t x e = 0 then rpOf (sdT t x) else zP
theorem anE_1 {t : Tr} {x e : Int} (h : tck t = false) : anE t x e = 31 := by unfold anE; rw [h]; rfl
theorem anE_2 {t : Tr} {x e : Int} (h : tck t = true) (h2 : gW x = false) : anE t x e = 14 := by unfold anE; rw [h, h2]; rfl
theorem anE_3 {t : Tr} {x e : Int} (h : tck t = true) (h2 : gW x = true) (h3 : caE t x ≠ 0) : anE t x e = 16 := by unfold anE; rw [h, h2, if_pos rfl, if_pos rfl, if_neg h3]
theorem anE_4 {t : Tr} {x e : Int} (h : tck t = true) (h2 : gW x = true) (h3 : caE t x = 0) (h4 : ¬ (1 ≤ e ∧ e ≤ t.ep)) : anE t x e = 32 := by unfold anE; rw [h, h2, if_pos rfl, if_pos rfl, if_pos h3, if_neg h4]
theorem anE_5 {t : Tr} {x e : Int} (h : tck t = true) (h2 : gW x = true) (h3 : caE t x = 0) (h4 : 1 ≤ e ∧ e ≤ t.ep) : anE t x e = 0 := by unfold anE; rw [h, h2, if_pos rfl, if_pos rfl, if_pos h3, if_pos h4]
theorem anP_no {t : Tr} {x e : Int} (h : anE t x e ≠ 0) : anP t x e = zP := by unfold anP; rw [if_neg h]
theorem anP_yes {t : Tr} {x e : Int} (h : anE t x e = 0) : anP t x e = rpOf (sdT t x) := by unfold anP; rw [if_pos h]
theorem an_on {t : Tr} {x e : Int} (h : anE t x e = 0) : caE t x = 0 := by
  unfold anE at h
  by_cases h1 : tck t = true
  · rw [if_pos h1] at h
    by_cases h2 : gW x = true
    · rw [if_pos h2] at h
      by_cases h3 : caE t x = 0
      · exact h3
      · rw [if_neg h3] at h; cases h
    · rw [if_neg h2] at h; cases h
  · rw [if_neg h1] at h; cases h
theorem caE_16 {t : Tr} {x : Int} (h : tck t = true) (h2 : caE t x ≠ 0) : caE t x = 16 := by
  unfold caE at h2 ⊢
  rw [if_pos h] at h2 ⊢
  by_cases hf : fnd t.ro x < 0
  · rw [if_pos hf]
  · rw [if_neg hf] at h2; exact absurd rfl h2
/- A request in a block. -/
def rqa (a b : Int) : Array Value := #[.int .i64 a, .int .i64 b]
def QAt (w : World) (B : Nat) (a b : Int) : Prop := w.heap[B]? = some (.cells (rqa a b) 50 (0, 0))
theorem QAt.later {w w' : World} {B : Nat} {a b : Int} (h : QAt w B a b) (hb : Below w.heap.size w w') : QAt w' B a b := row_later h hb
theorem QAt.new (w : World) (a b : Int) : QAt (w.alloc (.cells #[.int .i64 a, .int .i64 b] 50)) w.heap.size a b := heap_alloc_last w _
theorem QAt.cells {w : World} {B : Nat} {a b : Int} (h : QAt w B a b) : w.cell? ⟨B, 0, none⟩ = some (.int .i64 a) ∧ w.cell? ⟨B, 1, none⟩ = some (.int .i64 b) := ⟨cell_of_row w B 0 _ _ _ h, cell_of_row w B 1 _ _ _ h⟩
open Go.RowKit Go.Maps Mb

def rpa (p : Rp) : Array Value := (rpl p).toArray
def RA (w : World) (B : Nat) (p : Rp) : Prop := w.heap[B]? = some (.cells (rpa p) 36 (0, 0))
theorem infoRp : (Tryz.prog.info? 36).map (·.size) = some 15 := by kernel_rfl
theorem rpa_one (p : Rp) : (rpa p).all (·.oneCell') = true := by simp [rpa, rpl, Value.oneCell']
theorem RA.later {w w' : World} {B : Nat} {p : Rp} (h : RA w B p) (hb : Below w.heap.size w w') : RA w' B p := row_later h hb
theorem RA.new (w : World) (p : Rp) : RA (w.alloc (.cells (rpa p) 36)) w.heap.size p := heap_alloc_last w _
theorem RA.all {w : World} {B : Nat} {p : Rp} (h : RA w B p) : w.rangeAt B 0 (rpl p) := ra_of h 0 (rpl p) rfl
theorem RA.there {w : World} {B : Nat} {p : Rp} (h : RA w B p) (o n : Nat) (e : o + n ≤ 15) : w.there B o n := th_of h o n e
theorem RA.who {w : World} {B : Nat} {p : Rp} (h : RA w B p) : w.cell? ⟨B, 0, none⟩ = some (.int .i64 p.1.1) := (cell_of_row w B 0 _ _ _ h).trans rfl
theorem RA.slt {w : World} {B : Nat} {p : Rp} (h : RA w B p) : w.cell? ⟨B, 1, none⟩ = some (.int .i64 p.1.2) := (cell_of_row w B 1 _ _ _ h).trans rfl
theorem RA.ep {w : World} {B : Nat} {p : Rp} (h : RA w B p) : w.cell? ⟨B, 2, none⟩ = some (.int .i64 p.2.1) := (cell_of_row w B 2 _ _ _ h).trans rfl
theorem RA.b0 {w : World} {B : Nat} {p : Rp} (h : RA w B p) : w.rangeAt B 3 (bxl p.2.2.1) := ra_of h 3 _ rfl
theorem RA.b1 {w : World} {B : Nat} {p : Rp} (h : RA w B p) : w.rangeAt B 7 (bxl p.2.2.2.1) := ra_of h 7 _ rfl
theorem RA.b2 {w : World} {B : Nat} {p : Rp} (h : RA w B p) : w.rangeAt B 11 (bxl p.2.2.2.2) := ra_of h 11 _ rfl
theorem RA.var {w : World} {B : Nat} {p : Rp} (h : RA w B p) : (loadVar 36 ⟨B, 0, none⟩).run Tryz.prog w = .ok (.agg (rpa p)) w := run_loadVar_row w B _ 36 _ _ _ h Tryz.underlying36 rfl infoRp
theorem RA.row {w : World} {B : Nat} {p : Rp} (h : RA w B p) (q : Rp) : RA (w.setRow B (rpa q)) B q := Rt.heap_setRow_same h _
theorem RA.set0 {w : World} {B : Nat} {p : Rp} (h : RA w B p) (b : (Int × Int) × (Int × Int)) : RA (w.setCells B 3 (bxl b)) B (p.1, (p.2.1, (b, p.2.2.2))) := row_upd (bxl b) 3 h
theorem RA.set1 {w : World} {B : Nat} {p : Rp} (h : RA w B p) (b : (Int × Int) × (Int × Int)) : RA (w.setCells B 7 (bxl b)) B (p.1, (p.2.1, (p.2.2.1, (b, p.2.2.2.2)))) := row_upd (bxl b) 7 h
theorem RA.set2 {w : World} {B : Nat} {p : Rp} (h : RA w B p) (b : (Int × Int) × (Int × Int)) : RA (w.setCells B 11 (bxl b)) B (p.1, (p.2.1, (p.2.2.1, (p.2.2.2.1, b)))) := row_upd (bxl b) 11 h
/- Loaded, stored. -/
theorem ldRp {ops : Array Oper} {rest : List Oper} {o : Oper} {a : Act} {w : World} {Q : Exit → Act → World → Prop} {B : Nat} {p : Rp} {c : Array Value} (h : RA w B p) (hc : rpa p = c) (x : Operand) (ho : o.op = .load 36 x) (hx : a.eval x = .pointer (some ⟨B, 0, none⟩)) (hw : Region.wanted o (yielded ops a.tmps) = true)
    (k : wpList Tryz.prog ops Q rest (a.put o.dst (.agg c)) w) : wpList Tryz.prog ops Q (o :: rest) a w := by
  subst hc
  exact ldM h.all Tryz.underlying36 rfl infoRp x ho hx hw k
theorem stRp {ops : Array Oper} {rest : List Oper} {o : Oper} {a : Act} {w : World} {Q : Exit → Act → World → Prop} {B : Nat} {p : Rp} (h : RA w B p) (q : Rp) {c : Array Value} (hc : rpa q = c) (hgd : o.guard = none) (x y : Operand) (ho : o.op = .store 36 x y) (hx : a.eval x = .pointer (some ⟨B, 0, none⟩)) (hy : a.eval y = .agg c)
    (k : wpList Tryz.prog ops Q rest (a.put o.dst undef) (w.setRow B (rpa q))) : wpList Tryz.prog ops Q (o :: rest) a w := by
  subst hc
  exact stRow infoRp (cs := rpa p) rfl h (rpa q) rfl (rpa_one q) hgd x y ho hx hy k
theorem stRpn {ops : Array Oper} {rest : List Oper} {o : Oper} {a : Act} {w : World} {Q : Exit → Act → World → Prop} (p q : Rp) {c d : Array Value} (hd : rpa p = d) (hc : rpa q = c) (hgd : o.guard = none) (x y : Operand) (ho : o.op = .store 36 x y) (hx : a.eval x = .pointer (some ⟨w.heap.size, 0, none⟩)) (hy : a.eval y = .agg c)
    (k : wpList Tryz.prog ops Q rest (a.put o.dst undef) (w.alloc (.cells (rpa q) 36))) : wpList Tryz.prog ops Q (o :: rest) a (w.alloc (.cells d 36)) := by
  subst hd hc
  refine stRp (RA.new w p) q rfl hgd x y ho hx hy ?_
  rw [World.setRow_alloc_new]
  exact k
theorem px0 (a b c : Ky) (w : World) : (Instr.index 72 (.agg (pal a b c).toArray) (.int .i64 0)).run Tryz.prog w = .ok (.agg #[.int .i64 a.bas, .int .i64 a.stp]) w := by kernel_rfl
theorem px1 (a b c : Ky) (w : World) : (Instr.index 72 (.agg (pal a b c).toArray) (.int .i64 1)).run Tryz.prog w = .ok (.agg #[.int .i64 b.bas, .int .i64 b.stp]) w := by kernel_rfl
theorem px2 (a b c : Ky) (w : World) : (Instr.index 72 (.agg (pal a b c).toArray) (.int .i64 2)).run Tryz.prog w = .ok (.agg #[.int .i64 c.bas, .int .i64 c.stp]) w := by kernel_rfl
theorem rpa_zero : (#[.int .i64 0, .int .i64 0, .int .i64 0, .int .i64 0, .int .i64 0, .int .i64 0, .int .i64 0, .int .i64 0, .int .i64 0, .int .i64 0, .int .i64 0, .int .i64 0, .int .i64 0, .int .i64 0, .int .i64 0] : Array Value) = rpa zP := rfl
def rp0 (a b c : Int) : Rp := ((a, b), (c, (((0, 0), (0, 0)), (((0, 0), (0, 0)), ((0, 0), (0, 0))))))
theorem results_rp {fn : Func} {p : Tmp} (hf : fn.results = #[.cell p 36 ]) (tmps : Array Value) (W : World) (B : Nat) (q : Rp) (hp : tmps[p]? = some (.pointer (some ⟨B, 0, none⟩))) (h : RA W B q) :
    (results fn tmps).run Tryz.prog W = .ok (.agg (rpa q)) W := by
  simp [results, hf, hp, asAddr, h.var]
structure SR (w W : World) (B K P : Nat) (m : Mb) (p : Rp) : Prop where
  mb : MA W B m
  re : RA W K zP
  pr : RA W P p
  bel : Below w.heap.size w W
  gk : w.heap.size ≤ K
  gp : w.heap.size ≤ P
  n1 : B ≠ P
  n2 : K ≠ P
theorem SR.later {w W W' : World} {B K P : Nat} {m : Mb} {p : Rp} (h : SR w W B K P m p) (hb : Below W.heap.size W W') : SR w W' B K P m p := ⟨h.mb.later hb, h.re.later hb, h.pr.later hb, h.bel.trans (hb.mono h.bel.size), h.gk, h.gp, h.n1, h.n2⟩
theorem SR.upd {w W : World} {B K P : Nat} {m : Mb} {p : Rp} (h : SR w W B K P m p) {o : Nat} {vs : List Value} {q : Rp} (hq : RA (W.setCells P o vs) P q) : SR w (W.setCells P o vs) B K P m q := ⟨(other_upd h.n1 vs o).trans h.mb, (other_upd h.n2 vs o).trans h.re, hq, upd_below h.gp vs o h.bel, h.gk, h.gp, h.n1, h.n2⟩
theorem SR.alloc {w W : World} {B K : Nat} {m : Mb} (hm : MA W B m) (hr : RA W K zP) (hb : Below w.heap.size w W) (hk : w.heap.size ≤ K) (p : Rp) : SR w (W.alloc (.cells (rpa p) 36)) B K W.heap.size m p :=
  ⟨hm.later (below_alloc _ _), hr.later (below_alloc _ _), RA.new W p, Below.plus hb _, hk, hb.size, Nat.ne_of_lt hm.lt, Nat.ne_of_lt (row_lt hr)⟩
theorem seal_k {a b : Ky} (ha : gk a = true) (hb : gk b = true) (w : World) : Calls Tryz.prog 35 #[.agg #[.int .i64 a.bas, .int .i64 a.stp], .agg #[.int .i64 b.bas, .int .i64 b.stp]] w fun r w' => r = .returned (.tuple #[.agg #[.int .i64 a.bas, .int .i64 a.stp, .int .i64 b.bas, .int .i64 b.stp], .int .i64 0]) ∧ Below w.heap.size w w' :=
  Rt.seal_yes a.bas a.stp b.bas b.stp (gd_iff.1 ha) (gd_iff.1 hb) w
set_option maxRecDepth 100000 in
set_option maxHeartbeats 2000000 in
theorem replyTo_any (m : Mb) (hk : gk m.lf = true ∧ gk m.p0 = true ∧ gk m.p1 = true ∧ gk m.p2 = true) (w : World) : Calls Tryz.prog 17 #[.agg (mba m)] w fun r w' => r = .returned (.agg (rpa (rpOf m))) ∧ Below w.heap.size w w' := by
  obtain ⟨g, hg0, hg1, hg2⟩ := hk
  have sl0 := seal_k g hg0
  have sl1 := seal_k g hg1
  have sl2 := seal_k g hg2
  have px0 := px0 m.p0 m.p1 m.p2
  have px1 := px1 m.p0 m.p1 m.p2
  have px2 := px2 m.p0 m.p1 m.p2
  clear g hg0 hg1 hg2
  have hM := (MA.new w m).later (below_alloc (w.alloc (.cells (mba m) 74)) (.cells (rpa zP) 36))
  have hR := RA.new (w.alloc (.cells (mba m) 74)) zP
  have hB := Below.plus (below_alloc w (.cells (mba m) 74)) (.cells (rpa zP) 36)
  rw [World.size_alloc] at hR
  obtain ⟨cm, hcm⟩ : ∃ c, mba m = c := ⟨_, rfl⟩
  have HC : Hid (mba m = cm) := hcm
  rw [hcm] at hM hR hB
  rw [hcm]
  clear hcm
  go_enter Tryz.func17, Tryz.ntmps17
  go_upto_region 1 with (fail)
  rw [rpa_zero]
  generalize (w.alloc (.cells cm 74)).alloc (.cells (rpa zP) 36) = w1 at *
  have hS := SR.alloc hM hR hB (by omega) (rp0 m.who m.slt m.ep)
  obtain ⟨K, hK⟩ : ∃ K, w.heap.size + 1 = K := ⟨_, rfl⟩
  obtain ⟨B, hBe⟩ : ∃ B, w.heap.size = B := ⟨_, rfl⟩
  rw [hBe] at hM
  have HBe : Hid (w.heap.size = B) := hBe
  rw [hK] at hS ⊢
  have hS : SR w (w1.alloc (.cells (rpa (rp0 m.who m.slt m.ep)) 36)) B K w1.heap.size m (rp0 m.who m.slt m.ep) := by have h := hS; rw [← hBe]; exact h
  rw [hBe]
  have c0 := hM.who
  have c1 := hM.slt
  have c2 := hM.ep
  clear hM hR hB hK hBe HBe
  go_upto_region 2 with (refine stRpn zP (rp0 m.who m.slt m.ep) rfl rfl rfl _ _ rfl rfl rfl ?_)
  clear c0 c1 c2
  generalize w1.alloc (.cells (rpa (rp0 m.who m.slt m.ep)) 36) = wc at *
  generalize w1.heap.size = P at *
  go_wp2_with (refine ldPa hS.mb _ rfl rfl rfl ?_)
  refine wp_loop_rounds 4 ?_
  have hSa := hS.later (below_alloc wc (.cells #[.int .i64 m.p0.bas, .int .i64 m.p0.stp] 31))
  have hky := KyAt.new wc m.p0
  rw [rounds_succ]
  go_upto_region 5 with (fail)
  generalize wc.alloc (.cells #[.int .i64 m.p0.bas, .int .i64 m.p0.stp] 31) = wa at *
  generalize wc.heap.size = Y at *
  obtain ⟨y0, y1⟩ := hky.cells
  obtain ⟨c3, c4⟩ := hSa.mb.leaf
  clear hS hky
  go_wp2_with fail
  refine (sl0 _).mono ?_
  rintro r wb ⟨rfl, hb⟩
  have hSb := hSa.later hb
  have ht := hSb.pr.there 3 4 (by decide)
  have hS := hSb.upd (hSb.pr.set0 (bx m.lf m.p0))
  clear hSa hb y0 y1 c3 c4 sl0
  go_upto_region 6 with (refine stM (cs := bxl (bx m.lf m.p0)) ht szBox rfl rfl _ _ rfl rfl rfl ?_)
  generalize wb.setCells P 3 (bxl (bx m.lf m.p0)) = wc at *
  clear hSb ht
  go_wp2_with fail
  have hSa := hS.later (below_alloc wc (.cells #[.int .i64 m.p1.bas, .int .i64 m.p1.stp] 31))
  have hky := KyAt.new wc m.p1
  rw [rounds_succ]
  go_upto_region 5 with (fail)
  generalize wc.alloc (.cells #[.int .i64 m.p1.bas, .int .i64 m.p1.stp] 31) = wa at *
  generalize wc.heap.size = Y at *
  obtain ⟨y0, y1⟩ := hky.cells
  obtain ⟨c3, c4⟩ := hSa.mb.leaf
  clear hS hky
  go_wp2_with fail
  refine (sl1 _).mono ?_
  rintro r wb ⟨rfl, hb⟩
  have hSb := hSa.later hb
  have ht := hSb.pr.there 7 4 (by decide)
  have hS := hSb.upd (hSb.pr.set1 (bx m.lf m.p1))
  clear hSa hb y0 y1 c3 c4 sl1
  go_upto_region 6 with (refine stM (cs := bxl (bx m.lf m.p1)) ht szBox rfl rfl _ _ rfl rfl rfl ?_)
  generalize wb.setCells P 7 (bxl (bx m.lf m.p1)) = wc at *
  clear hSb ht
  go_wp2_with fail
  have hSa := hS.later (below_alloc wc (.cells #[.int .i64 m.p2.bas, .int .i64 m.p2.stp] 31))
  have hky := KyAt.new wc m.p2
  rw [rounds_succ]
  go_upto_region 5 with (fail)
  generalize wc.alloc (.cells #[.int .i64 m.p2.bas, .int .i64 m.p2.stp] 31) = wa at *
  generalize wc.heap.size = Y at *
  obtain ⟨y0, y1⟩ := hky.cells
  obtain ⟨c3, c4⟩ := hSa.mb.leaf
  clear hS hky
  go_wp2_with fail
  refine (sl2 _).mono ?_
  rintro r wb ⟨rfl, hb⟩
  have hSb := hSa.later hb
  have ht := hSb.pr.there 11 4 (by decide)
  have hS := hSb.upd (hSb.pr.set2 (bx m.lf m.p2))
  clear hSa hb y0 y1 c3 c4 sl2
  go_upto_region 6 with (refine stM (cs := bxl (bx m.lf m.p2)) ht szBox rfl rfl _ _ rfl rfl rfl ?_)
  generalize wb.setCells P 11 (bxl (bx m.lf m.p2)) = wc at *
  clear hSb ht
  go_wp2_with fail
  rw [rounds_succ]
  have hre := hS.re
  go_wp2_with (first | (refine ldRp hS.pr rfl _ rfl rfl rfl ?_) | (refine stRp hre (rpOf m) rfl rfl _ _ rfl rfl rfl ?_))
  refine bodyPost_ret (results_rp (p := 2) rfl _ _ K (rpOf m) rfl (hre.row (rpOf m))) rfl ?_
  exact ⟨rfl, Rt.setRow_below hS.gk hS.bel _⟩

def AnA (t : Tr) (x e : Int) : Ending := .returned (.tuple #[.agg (rpa (anP t x e)), .int .i64 (anE t x e)])
theorem AnA.no {t : Tr} {x e n : Int} (h : anE t x e = n) (hn : n ≠ 0) : Ending.returned (.tuple #[.agg (rpa zP), .int .i64 n]) = AnA t x e := by unfold AnA; rw [h, anP_no (by rw [h]; exact hn)]
theorem AnA.yes {t : Tr} {x e : Int} (h : anE t x e = 0) : Ending.returned (.tuple #[.agg (rpa (rpOf (sdT t x))), .int .i64 0]) = AnA t x e := by unfold AnA; rw [h, anP_yes h]
structure SN (w W : World) (B Q K : Nat) (t : Tr) (x e : Int) : Prop where
  tr : TrAt W B t
  rq : QAt W Q x e
  re : RA W K zP
  bel : Below w.heap.size w W
  ge : w.heap.size ≤ K
theorem SN.later {w W W' : World} {B Q K : Nat} {t : Tr} {x e : Int} (h : SN w W B Q K t x e) (hb : Below W.heap.size W W') : SN w W' B Q K t x e := ⟨h.tr.later hb, h.rq.later hb, h.re.later hb, h.bel.trans (hb.mono h.bel.size), h.ge⟩
theorem SN.new (w : World) (t : Tr) (x e : Int) : SN w (((w.alloc (.cells (tcs t) 47)).alloc (.cells #[.int .i64 x, .int .i64 e] 50)).alloc (.cells (rpa zP) 36)) w.heap.size (w.heap.size + 1) (w.heap.size + 2) t x e := by
  have h2 := QAt.new (w.alloc (.cells (tcs t) 47)) x e
  have h3 := RA.new ((w.alloc (.cells (tcs t) 47)).alloc (.cells #[.int .i64 x, .int .i64 e] 50)) zP
  rw [World.size_alloc] at h2
  rw [World.size_alloc, World.size_alloc] at h3
  exact ⟨((TrAt.new w t).later (below_alloc _ _)).later (below_alloc _ _), h2.later (below_alloc _ _), h3, Below.plus (Below.plus (below_alloc _ _) _) _, by omega⟩
theorem wp_stMid0 {o : Oper} {a : Act} {w : World} {K : Act → World → Prop} {Q : Exit → Act → World → Prop} (ty : TypeId) (x y : Operand) (ho : o.op = .store ty x y) (b off : Nat) (cs : List Value) (hx : a.eval x = .pointer (some ⟨b, off, none⟩)) (hy : a.eval y = .agg cs.toArray) (ht : w.there b off cs.length) (hi : (Tryz.prog.info? ty).map (·.size) = some cs.length) (h1 : cs.all (·.oneCell') = true) (hd : o.dst = none) (h : K a (w.setCells b off cs)) : o.wp Tryz.prog a w K Q := by
  refine wp_store_mid ty x y ho b off cs.toArray hx hy (by simpa using ht) (by simpa using hi) (by simpa using h1) ?_
  rw [hd]
  exact h
/- The walks. -/
set_option maxRecDepth 100000 in
set_option maxHeartbeats 2000000 in
theorem answer_any (t : Tr) (x e : Int) (w : World) : Calls Tryz.prog 6 #[.agg (tcs t), .agg (rqa x e)] w fun r w' => r = AnA t x e ∧ Below w.heap.size w w' := by
  have h2 := stand_p t x
  have h1 := check_any t
  have hS := SN.new w t x e
  obtain ⟨ct, hct⟩ : ∃ c, tcs t = c := ⟨_, rfl⟩
  have HT : Hid (tcs t = ct) := hct
  rw [hct] at hS
  simp only [hct] at h1 h2
  rw [hct]
  clear hct
  go_enter Tryz.func6, Tryz.ntmps6
  unfold rqa
  go_upto_region 1 with (fail)
  rw [rpa_zero]
  generalize ((w.alloc (.cells ct 47)).alloc (.cells #[.int .i64 x, .int .i64 e] 50)).alloc (.cells (rpa zP) 36) = w1 at *
  obtain ⟨K, hK⟩ : ∃ K, w.heap.size + 2 = K := ⟨_, rfl⟩
  obtain ⟨Q, hQ⟩ : ∃ Q, w.heap.size + 1 = Q := ⟨_, rfl⟩
  obtain ⟨B, hB⟩ : ∃ B, w.heap.size = B := ⟨_, rfl⟩
  have hS1 : SN w w1 B Q K t x e := by rw [← hB, ← hQ, ← hK]; exact hS
  rw [hK, hQ, hB]
  clear hK hQ hB hS
  go_wp2_with (refine rdT hS1.tr HT.out _ rfl rfl rfl ?_)
  refine (h1 _).mono ?_
  rintro r w2 ⟨rfl, hb2⟩
  have hS2 := hS1.later hb2
  clear hb2 h1 hS1
  cases hck : tck t with
  | false =>
    have HA : Hid _ := AnA.no (x := x) (e := e) (anE_1 hck) (by decide)
    rw [tckE_ff hck]
    clear h2 hck
    have HRE : Hid (RA w2 K zP) := hS2.re
    have HB : Hid (Below w.heap.size w w2) := hS2.bel
    have HG : Hid (w.heap.size ≤ K) := hS2.ge
    clear hS2
    go_wp2_with (refine stRp HRE.out zP rfl rfl _ _ rfl rfl rfl ?_)
    refine bodyPost_ret (resRow (p := 4) (t := 5) rfl _ _ K (rpa zP) rfl (HRE.out.row zP).var) rfl ?_
    exact ⟨HA.out, Rt.setRow_below HG.out HB.out _⟩
  | true =>
    rw [tckE_tt hck]
    obtain ⟨q0, q1⟩ := hS2.rq.cells
    cases hgw : gW x with
    | false =>
      have HA : Hid _ := AnA.no (e := e) (anE_2 hck hgw) (by decide)
      have hx : ¬ (0 ≤ x ∧ x < 256) := fun h => by rw [gW_iff.2 h] at hgw; cases hgw
      clear h2 hck hgw
      by_cases h0 : x < 0
      · have d0 : decide (x < 0) = true := decide_eq_true h0
        clear hx
        have HRE : Hid (RA w2 K zP) := hS2.re
        have HB : Hid (Below w.heap.size w w2) := hS2.bel
        have HG : Hid (w.heap.size ≤ K) := hS2.ge
        clear hS2
        go_wp2_with (refine stRp HRE.out zP rfl rfl _ _ rfl rfl rfl ?_)
        refine bodyPost_ret (resRow (p := 4) (t := 5) rfl _ _ K (rpa zP) rfl (HRE.out.row zP).var) rfl ?_
        exact ⟨HA.out, Rt.setRow_below HG.out HB.out _⟩
      · have d0 : decide (x < 0) = false := decide_eq_false h0
        have d1 : decide (256 ≤ x) = true := decide_eq_true (by omega)
        clear hx h0
        have HRE : Hid (RA w2 K zP) := hS2.re
        have HB : Hid (Below w.heap.size w w2) := hS2.bel
        have HG : Hid (w.heap.size ≤ K) := hS2.ge
        clear hS2
        go_wp2_with (refine stRp HRE.out zP rfl rfl _ _ rfl rfl rfl ?_)
        refine bodyPost_ret (resRow (p := 4) (t := 5) rfl _ _ K (rpa zP) rfl (HRE.out.row zP).var) rfl ?_
        exact ⟨HA.out, Rt.setRow_below HG.out HB.out _⟩
    | true =>
      have hx := gW_iff.1 hgw
      have d0 : decide (x < 0) = false := decide_eq_false (by omega)
      have d1 : decide (256 ≤ x) = false := decide_eq_false (by omega)
      clear hx
      have H1 : Hid (caE t x ≠ 0 → anE t x e = 16) := anE_3 hck hgw
      have H16 : Hid (caE t x ≠ 0 → caE t x = 16) := caE_16 hck
      have H2 : Hid (caE t x = 0 → ¬ (1 ≤ e ∧ e ≤ t.ep) → anE t x e = 32) := anE_4 hck hgw
      have H3 : Hid (caE t x = 0 → (1 ≤ e ∧ e ≤ t.ep) → anE t x e = 0) := anE_5 hck hgw
      have H4 : Hid (caE t x = 0 → ∀ W, Calls Tryz.prog 17 #[.agg (mba (sdT t x))] W fun r w' => r = .returned (.agg (rpa (rpOf (sdT t x)))) ∧ Below W.heap.size W w') := fun h => replyTo_any (sdT t x) (on_good h)
      clear hck hgw
      obtain ⟨cm, hcm⟩ : ∃ c, mba (sdT t x) = c := ⟨_, rfl⟩
      have HM : Hid (mba (sdT t x) = cm) := hcm
      simp only [hcm] at h2
      rw [hcm] at H4
      clear hcm
      go_wp2_with (refine rdT hS2.tr HT.out _ rfl rfl rfl ?_)
      refine (h2 _).mono ?_
      rintro r w3 ⟨rfl, hb3⟩
      have hS3 := (hS2.later hb3).later (below_alloc w3 (.cells cm 74))
      have hMA := MA.new w3 (sdT t x)
      rw [HM.out] at hMA
      clear h2 hb3 hS2 q0 q1
      go_upto_region 7 with (refine stMn (w := w3) HM.out rfl _ _ rfl rfl rfl ?_)
      generalize w3.alloc (.cells cm 74) = w4 at *
      generalize w3.heap.size = M at *
      by_cases hce : caE t x = 0
      · rw [hce]
        have HA3 : Hid ((1 ≤ e ∧ e ≤ t.ep) → Ending.returned (.tuple #[.agg (rpa (rpOf (sdT t x))), .int .i64 0]) = AnA t x e) := fun h => AnA.yes (H3.out hce h)
        have HA2 : Hid (¬ (1 ≤ e ∧ e ≤ t.ep) → Ending.returned (.tuple #[.agg (rpa zP), .int .i64 32]) = AnA t x e) := fun h => AnA.no (H2.out hce h) (by decide)
        have h4 := H4.out hce
        have HEP : Hid ((sdT t x).ep = t.ep) := by unfold Hid sdT caP; dsimp only; rw [if_pos hce]
        clear hce H1 H16 H2 H3 H4
        obtain ⟨q0, q1⟩ := hS3.rq.cells
        have t0 := hS3.tr.cells.1
        generalize t.ep = te at *
        by_cases h1e : 1 ≤ e
        · have d2 : decide (e < 1) = false := decide_eq_false (by omega)
          by_cases h2e : e ≤ te
          · have d3 : decide (te < e) = false := decide_eq_false (by omega)
            have HA : Hid _ := HA3.out ⟨h1e, h2e⟩
            clear HA2 HA3 h1e h2e
            clear HEP
            go_wp2_with (refine ldMb hMA HM.out _ rfl rfl rfl ?_)
            refine (h4 _).mono ?_
            rintro r w5 ⟨rfl, hb5⟩
            have hS5 := hS3.later hb5
            have HRE : Hid (RA w5 K zP) := hS5.re
            have HB : Hid (Below w.heap.size w w5) := hS5.bel
            have HG : Hid (w.heap.size ≤ K) := hS5.ge
            obtain ⟨rp, hrp⟩ : ∃ r, rpOf (sdT t x) = r := ⟨_, rfl⟩
            rw [hrp] at HA ⊢
            clear hrp hS5 hS3 hMA h4 hb5 t0 q0 q1
            go_wp2_with (refine stRp HRE.out rp rfl rfl _ _ rfl rfl rfl ?_)
            refine bodyPost_ret (resRow (p := 4) (t := 5) rfl _ _ K (rpa rp) rfl (HRE.out.row rp).var) rfl ?_
            exact ⟨HA.out, Rt.setRow_below HG.out HB.out _⟩
          · have d3 : decide (te < e) = true := decide_eq_true (by omega)
            have HA : Hid _ := HA2.out (fun h => h2e h.2)
            clear HA2 HA3 h4 hMA h1e h2e
            have HRE : Hid (RA w4 K zP) := hS3.re
            have HB : Hid (Below w.heap.size w w4) := hS3.bel
            have HG : Hid (w.heap.size ≤ K) := hS3.ge
            clear hS3
            go_wp2_with (refine stRp HRE.out zP rfl rfl _ _ rfl rfl rfl ?_)
            refine bodyPost_ret (resRow (p := 4) (t := 5) rfl _ _ K (rpa zP) rfl (HRE.out.row zP).var) rfl ?_
            exact ⟨HA.out, Rt.setRow_below HG.out HB.out _⟩
        · have d2 : decide (e < 1) = true := decide_eq_true (by omega)
          have HA : Hid _ := HA2.out (fun h => h1e h.1)
          clear HA2 HA3 h4 hMA h1e
          have HRE : Hid (RA w4 K zP) := hS3.re
          have HB : Hid (Below w.heap.size w w4) := hS3.bel
          have HG : Hid (w.heap.size ≤ K) := hS3.ge
          clear hS3
          go_wp2_with (refine stRp HRE.out zP rfl rfl _ _ rfl rfl rfl ?_)
          refine bodyPost_ret (resRow (p := 4) (t := 5) rfl _ _ K (rpa zP) rfl (HRE.out.row zP).var) rfl ?_
          exact ⟨HA.out, Rt.setRow_below HG.out HB.out _⟩
      · have HA : Hid _ := AnA.no (H1.out hce) (by decide)
        rw [H16.out hce]
        clear hce H1 H16 H2 H3 H4 hMA
        have HRE : Hid (RA w4 K zP) := hS3.re
        have HB : Hid (Below w.heap.size w w4) := hS3.bel
        have HG : Hid (w.heap.size ≤ K) := hS3.ge
        clear hS3
        go_wp2_with (refine stRp HRE.out zP rfl rfl _ _ rfl rfl rfl ?_)
        refine bodyPost_ret (resRow (p := 4) (t := 5) rfl _ _ K (rpa zP) rfl (HRE.out.row zP).var) rfl ?_
        exact ⟨HA.out, Rt.setRow_below HG.out HB.out _⟩
set_option maxRecDepth 100000 in
set_option maxHeartbeats 2000000 in
theorem rAnswer_any (t : Tr) (x e : Int) (w : World) : Calls Tryz.prog 8 #[.agg (tcs t), .agg (rqa x e)] w fun r w' => r = AnA t x e ∧ Below w.heap.size w w' := by
  have h2 := stand_r t x
  have h1 := rCheck_any t
  have hS := SN.new w t x e
  obtain ⟨ct, hct⟩ : ∃ c, tcs t = c := ⟨_, rfl⟩
  have HT : Hid (tcs t = ct) := hct
  rw [hct] at hS
  simp only [hct] at h1 h2
  rw [hct]
  clear hct
  go_enter Tryz.func8, Tryz.ntmps8
  unfold rqa
  go_upto_region 1 with (fail)
  rw [rpa_zero]
  generalize ((w.alloc (.cells ct 47)).alloc (.cells #[.int .i64 x, .int .i64 e] 50)).alloc (.cells (rpa zP) 36) = w1 at *
  obtain ⟨K, hK⟩ : ∃ K, w.heap.size + 2 = K := ⟨_, rfl⟩
  obtain ⟨Q, hQ⟩ : ∃ Q, w.heap.size + 1 = Q := ⟨_, rfl⟩
  obtain ⟨B, hB⟩ : ∃ B, w.heap.size = B := ⟨_, rfl⟩
  have hS1 : SN w w1 B Q K t x e := by rw [← hB, ← hQ, ← hK]; exact hS
  rw [hK, hQ, hB]
  clear hK hQ hB hS
  go_wp2_with (refine rdT hS1.tr HT.out _ rfl rfl rfl ?_)
  refine (h1 _).mono ?_
  rintro r w2 ⟨rfl, hb2⟩
  have hS2 := hS1.later hb2
  clear hb2 h1 hS1
  cases hck : tck t with
  | false =>
    have HA : Hid _ := AnA.no (x := x) (e := e) (anE_1 hck) (by decide)
    rw [tckE_ff hck]
    clear h2 hck
    have HRE : Hid (RA w2 K zP) := hS2.re
    have HB : Hid (Below w.heap.size w w2) := hS2.bel
    have HG : Hid (w.heap.size ≤ K) := hS2.ge
    clear hS2
    go_wp2_with (refine stRp HRE.out zP rfl rfl _ _ rfl rfl rfl ?_)
    refine bodyPost_ret (resRow (p := 4) (t := 5) rfl _ _ K (rpa zP) rfl (HRE.out.row zP).var) rfl ?_
    exact ⟨HA.out, Rt.setRow_below HG.out HB.out _⟩
  | true =>
    rw [tckE_tt hck]
    obtain ⟨q0, q1⟩ := hS2.rq.cells
    cases hgw : gW x with
    | false =>
      have HA : Hid _ := AnA.no (e := e) (anE_2 hck hgw) (by decide)
      have hx : ¬ (0 ≤ x ∧ x < 256) := fun h => by rw [gW_iff.2 h] at hgw; cases hgw
      clear h2 hck hgw
      by_cases h0 : x < 0
      · have d0 : decide (x < 0) = true := decide_eq_true h0
        clear hx
        have HRE : Hid (RA w2 K zP) := hS2.re
        have HB : Hid (Below w.heap.size w w2) := hS2.bel
        have HG : Hid (w.heap.size ≤ K) := hS2.ge
        clear hS2
        go_wp2_with (refine stRp HRE.out zP rfl rfl _ _ rfl rfl rfl ?_)
        refine bodyPost_ret (resRow (p := 4) (t := 5) rfl _ _ K (rpa zP) rfl (HRE.out.row zP).var) rfl ?_
        exact ⟨HA.out, Rt.setRow_below HG.out HB.out _⟩
      · have d0 : decide (x < 0) = false := decide_eq_false h0
        have d1 : decide (256 ≤ x) = true := decide_eq_true (by omega)
        clear hx h0
        have HRE : Hid (RA w2 K zP) := hS2.re
        have HB : Hid (Below w.heap.size w w2) := hS2.bel
        have HG : Hid (w.heap.size ≤ K) := hS2.ge
        clear hS2
        go_wp2_with (refine stRp HRE.out zP rfl rfl _ _ rfl rfl rfl ?_)
        refine bodyPost_ret (resRow (p := 4) (t := 5) rfl _ _ K (rpa zP) rfl (HRE.out.row zP).var) rfl ?_
        exact ⟨HA.out, Rt.setRow_below HG.out HB.out _⟩
    | true =>
      have hx := gW_iff.1 hgw
      have d0 : decide (x < 0) = false := decide_eq_false (by omega)
      have d1 : decide (256 ≤ x) = false := decide_eq_false (by omega)
      clear hx
      have H1 : Hid (caE t x ≠ 0 → anE t x e = 16) := anE_3 hck hgw
      have H16 : Hid (caE t x ≠ 0 → caE t x = 16) := caE_16 hck
      have H2 : Hid (caE t x = 0 → ¬ (1 ≤ e ∧ e ≤ t.ep) → anE t x e = 32) := anE_4 hck hgw
      have H3 : Hid (caE t x = 0 → (1 ≤ e ∧ e ≤ t.ep) → anE t x e = 0) := anE_5 hck hgw
      have H4 : Hid (caE t x = 0 → ∀ W, Calls Tryz.prog 17 #[.agg (mba (sdT t x))] W fun r w' => r = .returned (.agg (rpa (rpOf (sdT t x)))) ∧ Below W.heap.size W w') := fun h => replyTo_any (sdT t x) (on_good h)
      clear hck hgw
      obtain ⟨cm, hcm⟩ : ∃ c, mba (sdT t x) = c := ⟨_, rfl⟩
      have HM : Hid (mba (sdT t x) = cm) := hcm
      simp only [hcm] at h2
      rw [hcm] at H4
      clear hcm
      go_wp2_with (refine rdT hS2.tr HT.out _ rfl rfl rfl ?_)
      refine (h2 _).mono ?_
      rintro r w3 ⟨rfl, hb3⟩
      have hS3 := (hS2.later hb3).later (below_alloc w3 (.cells cm 74))
      have hMA := MA.new w3 (sdT t x)
      rw [HM.out] at hMA
      clear h2 hb3 hS2 q0 q1
      go_upto_region 6 with (refine stMn (w := w3) HM.out rfl _ _ rfl rfl rfl ?_)
      generalize w3.alloc (.cells cm 74) = w4 at *
      generalize w3.heap.size = M at *
      by_cases hce : caE t x = 0
      · rw [hce]
        have HA3 : Hid ((1 ≤ e ∧ e ≤ t.ep) → Ending.returned (.tuple #[.agg (rpa (rpOf (sdT t x))), .int .i64 0]) = AnA t x e) := fun h => AnA.yes (H3.out hce h)
        have HA2 : Hid (¬ (1 ≤ e ∧ e ≤ t.ep) → Ending.returned (.tuple #[.agg (rpa zP), .int .i64 32]) = AnA t x e) := fun h => AnA.no (H2.out hce h) (by decide)
        have h4 := H4.out hce
        have HEP : Hid ((sdT t x).ep = t.ep) := by unfold Hid sdT caP; dsimp only; rw [if_pos hce]
        clear hce H1 H16 H2 H3 H4
        obtain ⟨q0, q1⟩ := hS3.rq.cells
        have t0 := hS3.tr.cells.1
        generalize t.ep = te at *
        by_cases h1e : 1 ≤ e
        · have d2 : decide (e < 1) = false := decide_eq_false (by omega)
          by_cases h2e : e ≤ te
          · have d3 : decide (te < e) = false := decide_eq_false (by omega)
            have HA : Hid _ := HA3.out ⟨h1e, h2e⟩
            clear HA2 HA3 h1e h2e
            clear h4
            obtain ⟨mm, hmm⟩ : ∃ m, sdT t x = m := ⟨_, rfl⟩
            rw [hmm] at HA HEP hMA
            clear hmm HM
            obtain rfl := HEP.out
            have c0 := hMA.who
            have c1 := hMA.slt
            have hS := SR.alloc hMA hS3.re hS3.bel hS3.ge (rp0 mm.who mm.slt mm.ep)
            clear hMA hS3
            go_upto_region 11 with (refine stRpn zP (rp0 mm.who mm.slt mm.ep) rfl rfl rfl _ _ rfl rfl rfl ?_)
            clear c0 c1 q0 q1 t0
            generalize w4.alloc (.cells (rpa (rp0 mm.who mm.slt mm.ep)) 36) = wc at *
            generalize w4.heap.size = P at *
            go_wp2_with fail
            refine wp_loop_rounds 4 ?_
            rw [rounds_succ]
            go_upto_region 14 with (fail)
            have hSD := hS.later (drew_below _)
            clear hS
            have HSD : Hid _ := hSD
            have hS0 : MA wc.drew M mm := hSD.mb
            clear hSD
            refine wp_region_held_drew (S := fun W => MA W M mm) (by kernel_rfl) hS0 (fun hHeld => ?_)
            clear hS0
            generalize wc.drew = wd at *
            refine wpAnyH_take (i := 0) (oi := { dst := some 55, op := Op.move (Operand.tmp 9), type := _, pos := _, after := _, guard := none }) (v := .int .i64 0) rfl (by kernel_rfl) (by kernel_rfl) (by kernel_rfl) (fun _ _ _ h => h) (Or.inl ⟨by rfl, fun w hSw => by (try dsimp only at hSw); go_simp⟩) (by assumption) ?_
            simp only [Act.put, List.setIfInBounds_toArray, List.set_cons_zero, List.set_cons_succ]
            refine wpAnyH_take (i := 1) (oi := { dst := some 56, op := Op.fieldAddr 74 (Operand.tmp 6) 3, type := _, pos := _, after := _, guard := none }) (v := .pointer (some ⟨M, 3, none⟩)) rfl (by kernel_rfl) (by kernel_rfl) (by kernel_rfl) (fun _ _ _ h => h) (Or.inl ⟨by rfl, fun w hSw => by (try dsimp only at hSw); go_simp⟩) (by assumption) ?_
            simp only [Act.put, List.setIfInBounds_toArray, List.set_cons_zero, List.set_cons_succ]
            refine wpAnyH_take (i := 2) (oi := { dst := some 57, op := Op.load 31 (Operand.tmp 56), type := _, pos := _, after := _, guard := none }) (v := .agg #[.int .i64 mm.lf.bas, .int .i64 mm.lf.stp]) rfl (by kernel_rfl) (by kernel_rfl) (by kernel_rfl) (fun _ _ _ h => h) (Or.inl ⟨by rfl, fun w hSw => by obtain ⟨c0, c1⟩ := hSw.leaf; clear hSw; go_simp⟩) (by assumption) ?_
            simp only [Act.put, List.setIfInBounds_toArray, List.set_cons_zero, List.set_cons_succ]
            refine wpAnyH_take (i := 3) (oi := { dst := some 58, op := Op.move (Operand.tmp 9), type := _, pos := _, after := _, guard := none }) (v := .int .i64 0) rfl (by kernel_rfl) (by kernel_rfl) (by kernel_rfl) (fun _ _ _ h => h) (Or.inl ⟨by rfl, fun w hSw => by (try dsimp only at hSw); go_simp⟩) (by assumption) ?_
            simp only [Act.put, List.setIfInBounds_toArray, List.set_cons_zero, List.set_cons_succ]
            refine wpAnyH_take (i := 4) (oi := { dst := some 59, op := Op.fieldAddr 74 (Operand.tmp 6) 4, type := _, pos := _, after := _, guard := none }) (v := .pointer (some ⟨M, 5, none⟩)) rfl (by kernel_rfl) (by kernel_rfl) (by kernel_rfl) (fun _ _ _ h => h) (Or.inl ⟨by rfl, fun w hSw => by (try dsimp only at hSw); go_simp⟩) (by assumption) ?_
            simp only [Act.put, List.setIfInBounds_toArray, List.set_cons_zero, List.set_cons_succ]
            refine wpAnyH_take (i := 5) (oi := { dst := some 60, op := Op.indexAddr 72 (Operand.tmp 59) (Operand.tmp 58), type := _, pos := _, after := _, guard := none }) (v := .pointer (some ⟨M, 5, none⟩)) rfl (by kernel_rfl) (by kernel_rfl) (by kernel_rfl) (fun _ _ _ h => h) (Or.inl ⟨by rfl, fun w hSw => by (try dsimp only at hSw); go_simp⟩) (by assumption) ?_
            simp only [Act.put, List.setIfInBounds_toArray, List.set_cons_zero, List.set_cons_succ]
            refine wpAnyH_take (i := 6) (oi := { dst := some 61, op := Op.load 31 (Operand.tmp 60), type := _, pos := _, after := _, guard := none }) (v := .agg #[.int .i64 mm.p0.bas, .int .i64 mm.p0.stp]) rfl (by kernel_rfl) (by kernel_rfl) (by kernel_rfl) (fun _ _ _ h => h) (Or.inl ⟨by rfl, fun w hSw => by obtain ⟨⟨a0, a1⟩, ⟨a2, a3⟩, a4, a5⟩ := hSw.key; clear hSw; go_simp⟩) (by assumption) ?_
            simp only [Act.put, List.setIfInBounds_toArray, List.set_cons_zero, List.set_cons_succ]
            refine wpAnyH_take (i := 7) (oi := { dst := some 62, op := Op.build 33 #[(0, (Operand.tmp 57)), (1, (Operand.tmp 61))], type := _, pos := _, after := _, guard := none }) (v := .agg #[.int .i64 mm.lf.bas, .int .i64 mm.lf.stp, .int .i64 mm.p0.bas, .int .i64 mm.p0.stp]) rfl (by kernel_rfl) (by kernel_rfl) (by kernel_rfl) (fun _ _ _ h => h) (Or.inl ⟨by rfl, fun w hSw => by (try dsimp only at hSw); go_simp⟩) (by assumption) ?_
            simp only [Act.put, List.setIfInBounds_toArray, List.set_cons_zero, List.set_cons_succ]
            refine wpAnyH_take (i := 8) (oi := { dst := some 63, op := Op.fieldAddr 36 (Operand.tmp 8) 3, type := _, pos := _, after := _, guard := none }) (v := .pointer (some ⟨P, 3, none⟩)) rfl (by kernel_rfl) (by kernel_rfl) (by kernel_rfl) (fun _ _ _ h => h) (Or.inl ⟨by rfl, fun w hSw => by (try dsimp only at hSw); go_simp⟩) (by assumption) ?_
            simp only [Act.put, List.setIfInBounds_toArray, List.set_cons_zero, List.set_cons_succ]
            refine wpAnyH_take (i := 9) (oi := { dst := some 64, op := Op.indexAddr 34 (Operand.tmp 63) (Operand.tmp 55), type := _, pos := _, after := _, guard := none }) (v := .pointer (some ⟨P, 3, none⟩)) rfl (by kernel_rfl) (by kernel_rfl) (by kernel_rfl) (fun _ _ _ h => h) (Or.inl ⟨by rfl, fun w hSw => by (try dsimp only at hSw); go_simp⟩) (by assumption) ?_
            simp only [Act.put, List.setIfInBounds_toArray, List.set_cons_zero, List.set_cons_succ]
            refine wpAnyH_ready (rs := [10]) (by kernel_rfl) (by simp) ?_
            refine AllReadyH.cons rfl (fun Kc hK => ?_) AllReadyH.nil
            refine if_wp rfl (wp_stMid0 33 _ _ rfl P 3 (bxl (bx mm.lf mm.p0)) rfl rfl (HSD.out.pr.there 3 4 (by decide)) szBox rfl rfl ?_)
            refine hK.out _ _ ((other_upd HSD.out.n1 _ _).trans hHeld) (fun hHeld2 => ?_)
            clear hHeld
            clear hK Kc
            try simp only [Act.put, List.setIfInBounds_toArray, List.set_cons_zero, List.set_cons_succ]
            refine wpAnyH_done (by kernel_rfl) ?_ _
            have hS := HSD.out.upd (HSD.out.pr.set0 (bx mm.lf mm.p0))
            clear HSD hHeld2
            generalize wd.setCells P 3 (bxl (bx mm.lf mm.p0)) = wc at *
            go_wp2_with fail
            rw [rounds_succ]
            go_upto_region 14 with (fail)
            have hSD := hS.later (drew_below _)
            clear hS
            have HSD : Hid _ := hSD
            have hS0 : MA wc.drew M mm := hSD.mb
            clear hSD
            refine wp_region_held_drew (S := fun W => MA W M mm) (by kernel_rfl) hS0 (fun hHeld => ?_)
            clear hS0
            generalize wc.drew = wd at *
            refine wpAnyH_take (i := 0) (oi := { dst := some 55, op := Op.move (Operand.tmp 9), type := _, pos := _, after := _, guard := none }) (v := .int .i64 1) rfl (by kernel_rfl) (by kernel_rfl) (by kernel_rfl) (fun _ _ _ h => h) (Or.inl ⟨by rfl, fun w hSw => by (try dsimp only at hSw); go_simp⟩) (by assumption) ?_
            simp only [Act.put, List.setIfInBounds_toArray, List.set_cons_zero, List.set_cons_succ]
            refine wpAnyH_take (i := 1) (oi := { dst := some 56, op := Op.fieldAddr 74 (Operand.tmp 6) 3, type := _, pos := _, after := _, guard := none }) (v := .pointer (some ⟨M, 3, none⟩)) rfl (by kernel_rfl) (by kernel_rfl) (by kernel_rfl) (fun _ _ _ h => h) (Or.inl ⟨by rfl, fun w hSw => by (try dsimp only at hSw); go_simp⟩) (by assumption) ?_
            simp only [Act.put, List.setIfInBounds_toArray, List.set_cons_zero, List.set_cons_succ]
            refine wpAnyH_take (i := 2) (oi := { dst := some 57, op := Op.load 31 (Operand.tmp 56), type := _, pos := _, after := _, guard := none }) (v := .agg #[.int .i64 mm.lf.bas, .int .i64 mm.lf.stp]) rfl (by kernel_rfl) (by kernel_rfl) (by kernel_rfl) (fun _ _ _ h => h) (Or.inl ⟨by rfl, fun w hSw => by obtain ⟨c0, c1⟩ := hSw.leaf; clear hSw; go_simp⟩) (by assumption) ?_
            simp only [Act.put, List.setIfInBounds_toArray, List.set_cons_zero, List.set_cons_succ]
            refine wpAnyH_take (i := 3) (oi := { dst := some 58, op := Op.move (Operand.tmp 9), type := _, pos := _, after := _, guard := none }) (v := .int .i64 1) rfl (by kernel_rfl) (by kernel_rfl) (by kernel_rfl) (fun _ _ _ h => h) (Or.inl ⟨by rfl, fun w hSw => by (try dsimp only at hSw); go_simp⟩) (by assumption) ?_
            simp only [Act.put, List.setIfInBounds_toArray, List.set_cons_zero, List.set_cons_succ]
            refine wpAnyH_take (i := 4) (oi := { dst := some 59, op := Op.fieldAddr 74 (Operand.tmp 6) 4, type := _, pos := _, after := _, guard := none }) (v := .pointer (some ⟨M, 5, none⟩)) rfl (by kernel_rfl) (by kernel_rfl) (by kernel_rfl) (fun _ _ _ h => h) (Or.inl ⟨by rfl, fun w hSw => by (try dsimp only at hSw); go_simp⟩) (by assumption) ?_
            simp only [Act.put, List.setIfInBounds_toArray, List.set_cons_zero, List.set_cons_succ]
            refine wpAnyH_take (i := 5) (oi := { dst := some 60, op := Op.indexAddr 72 (Operand.tmp 59) (Operand.tmp 58), type := _, pos := _, after := _, guard := none }) (v := .pointer (some ⟨M, 7, none⟩)) rfl (by kernel_rfl) (by kernel_rfl) (by kernel_rfl) (fun _ _ _ h => h) (Or.inl ⟨by rfl, fun w hSw => by (try dsimp only at hSw); go_simp⟩) (by assumption) ?_
            simp only [Act.put, List.setIfInBounds_toArray, List.set_cons_zero, List.set_cons_succ]
            refine wpAnyH_take (i := 6) (oi := { dst := some 61, op := Op.load 31 (Operand.tmp 60), type := _, pos := _, after := _, guard := none }) (v := .agg #[.int .i64 mm.p1.bas, .int .i64 mm.p1.stp]) rfl (by kernel_rfl) (by kernel_rfl) (by kernel_rfl) (fun _ _ _ h => h) (Or.inl ⟨by rfl, fun w hSw => by obtain ⟨⟨a0, a1⟩, ⟨a2, a3⟩, a4, a5⟩ := hSw.key; clear hSw; go_simp⟩) (by assumption) ?_
            simp only [Act.put, List.setIfInBounds_toArray, List.set_cons_zero, List.set_cons_succ]
            refine wpAnyH_take (i := 7) (oi := { dst := some 62, op := Op.build 33 #[(0, (Operand.tmp 57)), (1, (Operand.tmp 61))], type := _, pos := _, after := _, guard := none }) (v := .agg #[.int .i64 mm.lf.bas, .int .i64 mm.lf.stp, .int .i64 mm.p1.bas, .int .i64 mm.p1.stp]) rfl (by kernel_rfl) (by kernel_rfl) (by kernel_rfl) (fun _ _ _ h => h) (Or.inl ⟨by rfl, fun w hSw => by (try dsimp only at hSw); go_simp⟩) (by assumption) ?_
            simp only [Act.put, List.setIfInBounds_toArray, List.set_cons_zero, List.set_cons_succ]
            refine wpAnyH_take (i := 8) (oi := { dst := some 63, op := Op.fieldAddr 36 (Operand.tmp 8) 3, type := _, pos := _, after := _, guard := none }) (v := .pointer (some ⟨P, 3, none⟩)) rfl (by kernel_rfl) (by kernel_rfl) (by kernel_rfl) (fun _ _ _ h => h) (Or.inl ⟨by rfl, fun w hSw => by (try dsimp only at hSw); go_simp⟩) (by assumption) ?_
            simp only [Act.put, List.setIfInBounds_toArray, List.set_cons_zero, List.set_cons_succ]
            refine wpAnyH_take (i := 9) (oi := { dst := some 64, op := Op.indexAddr 34 (Operand.tmp 63) (Operand.tmp 55), type := _, pos := _, after := _, guard := none }) (v := .pointer (some ⟨P, 7, none⟩)) rfl (by kernel_rfl) (by kernel_rfl) (by kernel_rfl) (fun _ _ _ h => h) (Or.inl ⟨by rfl, fun w hSw => by (try dsimp only at hSw); go_simp⟩) (by assumption) ?_
            simp only [Act.put, List.setIfInBounds_toArray, List.set_cons_zero, List.set_cons_succ]
            refine wpAnyH_ready (rs := [10]) (by kernel_rfl) (by simp) ?_
            refine AllReadyH.cons rfl (fun Kc hK => ?_) AllReadyH.nil
            refine if_wp rfl (wp_stMid0 33 _ _ rfl P 7 (bxl (bx mm.lf mm.p1)) rfl rfl (HSD.out.pr.there 7 4 (by decide)) szBox rfl rfl ?_)
            refine hK.out _ _ ((other_upd HSD.out.n1 _ _).trans hHeld) (fun hHeld2 => ?_)
            clear hHeld
            clear hK Kc
            try simp only [Act.put, List.setIfInBounds_toArray, List.set_cons_zero, List.set_cons_succ]
            refine wpAnyH_done (by kernel_rfl) ?_ _
            have hS := HSD.out.upd (HSD.out.pr.set1 (bx mm.lf mm.p1))
            clear HSD hHeld2
            generalize wd.setCells P 7 (bxl (bx mm.lf mm.p1)) = wc at *
            go_wp2_with fail
            rw [rounds_succ]
            go_upto_region 14 with (fail)
            have hSD := hS.later (drew_below _)
            clear hS
            have HSD : Hid _ := hSD
            have hS0 : MA wc.drew M mm := hSD.mb
            clear hSD
            refine wp_region_held_drew (S := fun W => MA W M mm) (by kernel_rfl) hS0 (fun hHeld => ?_)
            clear hS0
            generalize wc.drew = wd at *
            refine wpAnyH_take (i := 0) (oi := { dst := some 55, op := Op.move (Operand.tmp 9), type := _, pos := _, after := _, guard := none }) (v := .int .i64 2) rfl (by kernel_rfl) (by kernel_rfl) (by kernel_rfl) (fun _ _ _ h => h) (Or.inl ⟨by rfl, fun w hSw => by (try dsimp only at hSw); go_simp⟩) (by assumption) ?_
            simp only [Act.put, List.setIfInBounds_toArray, List.set_cons_zero, List.set_cons_succ]
            refine wpAnyH_take (i := 1) (oi := { dst := some 56, op := Op.fieldAddr 74 (Operand.tmp 6) 3, type := _, pos := _, after := _, guard := none }) (v := .pointer (some ⟨M, 3, none⟩)) rfl (by kernel_rfl) (by kernel_rfl) (by kernel_rfl) (fun _ _ _ h => h) (Or.inl ⟨by rfl, fun w hSw => by (try dsimp only at hSw); go_simp⟩) (by assumption) ?_
            simp only [Act.put, List.setIfInBounds_toArray, List.set_cons_zero, List.set_cons_succ]
            refine wpAnyH_take (i := 2) (oi := { dst := some 57, op := Op.load 31 (Operand.tmp 56), type := _, pos := _, after := _, guard := none }) (v := .agg #[.int .i64 mm.lf.bas, .int .i64 mm.lf.stp]) rfl (by kernel_rfl) (by kernel_rfl) (by kernel_rfl) (fun _ _ _ h => h) (Or.inl ⟨by rfl, fun w hSw => by obtain ⟨c0, c1⟩ := hSw.leaf; clear hSw; go_simp⟩) (by assumption) ?_
            simp only [Act.put, List.setIfInBounds_toArray, List.set_cons_zero, List.set_cons_succ]
            refine wpAnyH_take (i := 3) (oi := { dst := some 58, op := Op.move (Operand.tmp 9), type := _, pos := _, after := _, guard := none }) (v := .int .i64 2) rfl (by kernel_rfl) (by kernel_rfl) (by kernel_rfl) (fun _ _ _ h => h) (Or.inl ⟨by rfl, fun w hSw => by (try dsimp only at hSw); go_simp⟩) (by assumption) ?_
            simp only [Act.put, List.setIfInBounds_toArray, List.set_cons_zero, List.set_cons_succ]
            refine wpAnyH_take (i := 4) (oi := { dst := some 59, op := Op.fieldAddr 74 (Operand.tmp 6) 4, type := _, pos := _, after := _, guard := none }) (v := .pointer (some ⟨M, 5, none⟩)) rfl (by kernel_rfl) (by kernel_rfl) (by kernel_rfl) (fun _ _ _ h => h) (Or.inl ⟨by rfl, fun w hSw => by (try dsimp only at hSw); go_simp⟩) (by assumption) ?_
            simp only [Act.put, List.setIfInBounds_toArray, List.set_cons_zero, List.set_cons_succ]
            refine wpAnyH_take (i := 5) (oi := { dst := some 60, op := Op.indexAddr 72 (Operand.tmp 59) (Operand.tmp 58), type := _, pos := _, after := _, guard := none }) (v := .pointer (some ⟨M, 9, none⟩)) rfl (by kernel_rfl) (by kernel_rfl) (by kernel_rfl) (fun _ _ _ h => h) (Or.inl ⟨by rfl, fun w hSw => by (try dsimp only at hSw); go_simp⟩) (by assumption) ?_
            simp only [Act.put, List.setIfInBounds_toArray, List.set_cons_zero, List.set_cons_succ]
            refine wpAnyH_take (i := 6) (oi := { dst := some 61, op := Op.load 31 (Operand.tmp 60), type := _, pos := _, after := _, guard := none }) (v := .agg #[.int .i64 mm.p2.bas, .int .i64 mm.p2.stp]) rfl (by kernel_rfl) (by kernel_rfl) (by kernel_rfl) (fun _ _ _ h => h) (Or.inl ⟨by rfl, fun w hSw => by obtain ⟨⟨a0, a1⟩, ⟨a2, a3⟩, a4, a5⟩ := hSw.key; clear hSw; go_simp⟩) (by assumption) ?_
            simp only [Act.put, List.setIfInBounds_toArray, List.set_cons_zero, List.set_cons_succ]
            refine wpAnyH_take (i := 7) (oi := { dst := some 62, op := Op.build 33 #[(0, (Operand.tmp 57)), (1, (Operand.tmp 61))], type := _, pos := _, after := _, guard := none }) (v := .agg #[.int .i64 mm.lf.bas, .int .i64 mm.lf.stp, .int .i64 mm.p2.bas, .int .i64 mm.p2.stp]) rfl (by kernel_rfl) (by kernel_rfl) (by kernel_rfl) (fun _ _ _ h => h) (Or.inl ⟨by rfl, fun w hSw => by (try dsimp only at hSw); go_simp⟩) (by assumption) ?_
            simp only [Act.put, List.setIfInBounds_toArray, List.set_cons_zero, List.set_cons_succ]
            refine wpAnyH_take (i := 8) (oi := { dst := some 63, op := Op.fieldAddr 36 (Operand.tmp 8) 3, type := _, pos := _, after := _, guard := none }) (v := .pointer (some ⟨P, 3, none⟩)) rfl (by kernel_rfl) (by kernel_rfl) (by kernel_rfl) (fun _ _ _ h => h) (Or.inl ⟨by rfl, fun w hSw => by (try dsimp only at hSw); go_simp⟩) (by assumption) ?_
            simp only [Act.put, List.setIfInBounds_toArray, List.set_cons_zero, List.set_cons_succ]
            refine wpAnyH_take (i := 9) (oi := { dst := some 64, op := Op.indexAddr 34 (Operand.tmp 63) (Operand.tmp 55), type := _, pos := _, after := _, guard := none }) (v := .pointer (some ⟨P, 11, none⟩)) rfl (by kernel_rfl) (by kernel_rfl) (by kernel_rfl) (fun _ _ _ h => h) (Or.inl ⟨by rfl, fun w hSw => by (try dsimp only at hSw); go_simp⟩) (by assumption) ?_
            simp only [Act.put, List.setIfInBounds_toArray, List.set_cons_zero, List.set_cons_succ]
            refine wpAnyH_ready (rs := [10]) (by kernel_rfl) (by simp) ?_
            refine AllReadyH.cons rfl (fun Kc hK => ?_) AllReadyH.nil
            refine if_wp rfl (wp_stMid0 33 _ _ rfl P 11 (bxl (bx mm.lf mm.p2)) rfl rfl (HSD.out.pr.there 11 4 (by decide)) szBox rfl rfl ?_)
            refine hK.out _ _ ((other_upd HSD.out.n1 _ _).trans hHeld) (fun hHeld2 => ?_)
            clear hHeld
            clear hK Kc
            try simp only [Act.put, List.setIfInBounds_toArray, List.set_cons_zero, List.set_cons_succ]
            refine wpAnyH_done (by kernel_rfl) ?_ _
            have hS := HSD.out.upd (HSD.out.pr.set2 (bx mm.lf mm.p2))
            clear HSD hHeld2
            generalize wd.setCells P 11 (bxl (bx mm.lf mm.p2)) = wc at *
            go_wp2_with fail
            rw [rounds_succ]
            have hre := hS.re
            go_wp2_with (first | (refine ldRp hS.pr rfl _ rfl rfl rfl ?_) | (refine stRp hre (rpOf mm) rfl rfl _ _ rfl rfl rfl ?_))
            refine bodyPost_ret (resRow (p := 4) (t := 5) rfl _ _ K (rpa (rpOf mm)) rfl (hre.row (rpOf mm)).var) rfl ?_
            exact ⟨HA.out, Rt.setRow_below hS.gk hS.bel _⟩
          · have d3 : decide (te < e) = true := decide_eq_true (by omega)
            have HA : Hid _ := HA2.out (fun h => h2e h.2)
            clear HA2 HA3 h4 hMA h1e h2e
            have HRE : Hid (RA w4 K zP) := hS3.re
            have HB : Hid (Below w.heap.size w w4) := hS3.bel
            have HG : Hid (w.heap.size ≤ K) := hS3.ge
            clear hS3
            go_wp2_with (refine stRp HRE.out zP rfl rfl _ _ rfl rfl rfl ?_)
            refine bodyPost_ret (resRow (p := 4) (t := 5) rfl _ _ K (rpa zP) rfl (HRE.out.row zP).var) rfl ?_
            exact ⟨HA.out, Rt.setRow_below HG.out HB.out _⟩
        · have d2 : decide (e < 1) = true := decide_eq_true (by omega)
          have HA : Hid _ := HA2.out (fun h => h1e h.1)
          clear HA2 HA3 h4 hMA h1e
          have HRE : Hid (RA w4 K zP) := hS3.re
          have HB : Hid (Below w.heap.size w w4) := hS3.bel
          have HG : Hid (w.heap.size ≤ K) := hS3.ge
          clear hS3
          go_wp2_with (refine stRp HRE.out zP rfl rfl _ _ rfl rfl rfl ?_)
          refine bodyPost_ret (resRow (p := 4) (t := 5) rfl _ _ K (rpa zP) rfl (HRE.out.row zP).var) rfl ?_
          exact ⟨HA.out, Rt.setRow_below HG.out HB.out _⟩
      · have HA : Hid _ := AnA.no (H1.out hce) (by decide)
        rw [H16.out hce]
        clear hce H1 H16 H2 H3 H4 hMA
        have HRE : Hid (RA w4 K zP) := hS3.re
        have HB : Hid (Below w.heap.size w w4) := hS3.bel
        have HG : Hid (w.heap.size ≤ K) := hS3.ge
        clear hS3
        go_wp2_with (refine stRp HRE.out zP rfl rfl _ _ rfl rfl rfl ?_)
        refine bodyPost_ret (resRow (p := 4) (t := 5) rfl _ _ K (rpa zP) rfl (HRE.out.row zP).var) rfl ?_
        exact ⟨HA.out, Rt.setRow_below HG.out HB.out _⟩
end Go.Proofs.YtpimbpfefhkojabGreatDoor.Rq
