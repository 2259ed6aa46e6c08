/- Tools: parts of rows loaded and stored as one value; lists that can be read; the parts of a message as cells. -/
import Derived.Test.YtdkfifnhmfbagaaGreatWiMath2
import Derived.Test.YtdkfifnhmfbagaaGreatBitPut
import Derived.Test.YtdkfifnhmfbagaaGreatKeyJ
import Derived.Test.YtdkfifnhmfbagaaGreatShJ
import Derived.Deep.MidRow
import Derived.Deep.WholeRow
import Derived.Deep.DeepCutAuto
import Derived.Laws.AppendOwnNone
import Derived.Laws.ResultCell
import Derived.Laws.OwnMore
import Derived.Maps.AppendAt
namespace Go.Proofs.YtdkfifnhmfbagaaGreat.Wi
open Go.RowKit Go.Maps
set_option linter.unusedVariables false
set_option linter.unusedSimpArgs false

theorem ret_bool {a b : Bool} (h : a = b) : Ending.returned (.bool a) = .returned (.bool b) := by rw [h]
theorem below_alloc (w : World) (o : Obj) : Below w.heap.size w (w.alloc o) := (Below.refl _ w).alloc (Nat.le_refl _) _
theorem drew_below (w : World) : Below w.heap.size w w.drew := ⟨rfl, rfl, rfl, Nat.le_refl _, fun _ _ => rfl⟩
theorem Below.join {w0 w w' : World} (h : Below w0.heap.size w0 w) (hb : Below w.heap.size w w') : Below w0.heap.size w0 w' := h.trans (hb.mono h.size)
theorem Below.plus {w0 w : World} (h : Below w0.heap.size w0 w) (o : Obj) : Below w0.heap.size w0 (w.alloc o) := h.alloc h.size _
theorem row_set {w : World} {B : Nat} {cs : Array Value} {t : TypeId} (h : w.heap[B]? = some (.cells cs t (0, 0))) (k : Nat) (v : Value) : (w.setCell ⟨B, k, none⟩ v).heap[B]? = some (.cells (cs.setIfInBounds k v) t (0, 0)) := by
  simp only [World.setCell, Array.getElem?_modify]
  rw [if_pos trivial, h]
  rfl
theorem other_set {w : World} {B C : Nat} (h : C ≠ B) (k : Nat) (v : Value) : (w.setCell ⟨B, k, none⟩ v).heap[C]? = w.heap[C]? := by
  simp only [World.setCell, Array.getElem?_modify]
  rw [if_neg (fun e => h e.symm)]
theorem row_fr {w : World} {B : Nat} {cs : Array Value} {t : TypeId} (h : w.heap[B]? = some (.cells cs t (0, 0))) (k : Nat) : w.frozen? ⟨B, k, none⟩ = false := by simp [World.frozen?, h]
theorem row_lt {w : World} {B : Nat} {o : Obj} (h : w.heap[B]? = some o) : B < w.heap.size := (Array.getElem?_eq_some_iff.1 h).1
theorem row_later {w w' : World} {B : Nat} {o : Obj} (h : w.heap[B]? = some o) (hb : Below w.heap.size w w') : w'.heap[B]? = some o := (hb.block B (row_lt h)).trans h
theorem row_ne {w : World} {B C : Nat} {cs ds : Array Value} {t u : TypeId} {x y : Nat × Nat} (h : w.heap[B]? = some (.cells cs t x)) (k : w.heap[C]? = some (.cells ds u y)) (hne : t ≠ u) : B ≠ C := by
  intro e
  subst e
  rw [h] at k
  simp at k
  exact hne k.2.1
theorem rd_guard {w : World} {ops : Array Oper} {rest : List Oper} {o : Oper} {a : Act} {Q : Exit → Act → World → Prop} {v : Value} (hw : Region.wanted o (yielded ops a.tmps) = true) (hrun : (execOp a.eval o).run Tryz.prog w = .ok (.value v) w)
    (k : wpList Tryz.prog ops Q rest (a.put o.dst v) w) : wpList Tryz.prog ops Q (o :: rest) a w := by
  refine wpList_step fun K hK => ?_
  rw [if_pos hw]
  unfold Oper.wp
  rw [hrun, Oper.upon_value]
  exact hK _ _ k
/- A part of a row, loaded as one value: an arm of the walk. -/
theorem ldM {w : World} {ops : Array Oper} {rest : List Oper} {o : Oper} {a : Act} {Q : Exit → Act → World → Prop} {B off : Nat} {T : TypeId} {d : TypeDesc} {cs : List Value} (hc : w.rangeAt B off cs) (hu : Tryz.prog.underlying T = some d) (hd : d.isRow = true)
    (hi : (Tryz.prog.info? T).map (·.size) = some cs.length) (x : Operand) (ho : o.op = .load T x) (hx : a.eval x = .pointer (some ⟨B, off, none⟩)) (hw : Region.wanted o (yielded ops a.tmps) = true)
    (k : wpList Tryz.prog ops Q rest (a.put o.dst (.agg cs.toArray)) w) : wpList Tryz.prog ops Q (o :: rest) a w := by
  refine rd_guard hw ?_ k
  have h := run_loadAt_mid w B off T cs d hc hu hd hi
  simp [execOp, ho, hx, h, Sem.run_bind, Result.andThen]
/- One stored. -/
theorem stM {w : World} {ops : Array Oper} {rest : List Oper} {o : Oper} {a : Act} {Q : Exit → Act → World → Prop} {B off : Nat} {T : TypeId} {cs : List Value} (ht : w.there B off cs.length) (hi : (Tryz.prog.info? T).map (·.size) = some cs.length) (h1 : cs.all (·.oneCell') = true) (hgd : o.guard = none)
    (x y : Operand) (ho : o.op = .store T x y) (hx : a.eval x = .pointer (some ⟨B, off, none⟩)) (hy : a.eval y = .agg cs.toArray)
    (k : wpList Tryz.prog ops Q rest (a.put o.dst undef) (w.setCells B off cs)) : wpList Tryz.prog ops Q (o :: rest) a w :=
  wpList_store_mid hgd T x y ho B off cs.toArray hx hy (by simpa using ht) (by simpa using hi) (by simpa using h1) (by simpa using k)
def upd : Array Value → Nat → List Value → Array Value
  | cs, _, [] => cs
  | cs, o, v :: r => upd (cs.setIfInBounds o v) (o + 1) r
theorem row_upd {B : Nat} {t : TypeId} : ∀ (vs : List Value) (o : Nat) {w : World} {cs : Array Value}, w.heap[B]? = some (.cells cs t (0, 0)) → (w.setCells B o vs).heap[B]? = some (.cells (upd cs o vs) t (0, 0))
  | [], o, w, cs, h => h
  | v :: r, o, w, cs, h => by
    rw [World.setCells, upd]
    exact row_upd r (o + 1) (row_set h o v)
theorem other_upd {B C : Nat} (hne : C ≠ B) : ∀ (vs : List Value) (o : Nat) {w : World}, (w.setCells B o vs).heap[C]? = w.heap[C]?
  | [], o, w => rfl
  | v :: r, o, w => by
    rw [World.setCells]
    exact (other_upd hne r (o + 1)).trans (other_set hne o v)
theorem upd_below {B N : Nat} (hB : N ≤ B) : ∀ (vs : List Value) (o : Nat) {w0 w : World}, Below N w0 w → Below N w0 (w.setCells B o vs)
  | [], o, w0, w, h => h
  | v :: r, o, w0, w, h => by
    rw [World.setCells]
    exact upd_below hB r (o + 1) (h.setCell (p := ⟨B, o, none⟩) hB v)
theorem upd_size {B : Nat} : ∀ (vs : List Value) (o : Nat) {w : World}, (w.setCells B o vs).heap.size = w.heap.size
  | [], o, w => rfl
  | v :: r, o, w => by
    rw [World.setCells, upd_size r (o + 1)]
    simp [World.setCell]
theorem ra_of {w : World} {B : Nat} {cs : Array Value} {t : TypeId} {fz : Nat × Nat} (h : w.heap[B]? = some (.cells cs t fz)) (o : Nat) (ds : List Value) (e : (cs.toList.drop o).take ds.length = ds) : w.rangeAt B o ds := fun j v hv => by
  rw [cell_of_row w B (o + j) cs t fz h]
  have hj : j < ds.length := (List.getElem?_eq_some_iff.1 hv).1
  rw [← e, List.getElem?_take_of_lt hj, List.getElem?_drop] at hv
  simpa using hv
theorem th_of {w : World} {B : Nat} {cs : Array Value} {t : TypeId} (h : w.heap[B]? = some (.cells cs t (0, 0))) (o n : Nat) (e : o + n ≤ cs.size) : w.there B o n := fun j hj => by
  refine ⟨?_, row_fr h _⟩
  rw [cell_of_row w B (o + j) cs t _ h, Array.getElem?_eq_getElem (by omega)]
  rfl
theorem ra_later {w w' : World} {b o : Nat} {cs : List Value} (h : w.rangeAt b o cs) (hb : Below w.heap.size w w') : w'.rangeAt b o cs := fun j v hv => cell_later hb (h j v hv)
/- Lists that can be read. -/
def RdV {α : Type} (f : α → List Value) (n : Nat) (w : World) (a : Option Addr) (l : List α) : Prop := ∀ (i : Nat) (h : i < l.length), ∃ b o, a = some ⟨b, o, none⟩ ∧ w.rangeAt b (o + i * n) (f l[i])
theorem RdV.later {α : Type} {f : α → List Value} {n : Nat} {w w' : World} {a : Option Addr} {l : List α} (h : RdV f n w a l) (hb : Below w.heap.size w w') : RdV f n w' a l := fun i hi => by
  obtain ⟨b, o, e, r⟩ := h i hi
  exact ⟨b, o, e, ra_later r hb⟩
theorem RdV.nil {α : Type} (f : α → List Value) (n : Nat) (w : World) (a : Option Addr) : RdV f n w a [] := fun i hi => by cases hi
/- The parts as cells. -/
def stl (s : Int × Int) : List Value := [.int .i64 s.1, .int .i64 s.2]
def bxl (b : (Int × Int) × (Int × Int)) : List Value := [.int .i64 b.1.1, .int .i64 b.1.2, .int .i64 b.2.1, .int .i64 b.2.2]
def itl (i : (Int × Int) × ((Int × Int) × (Int × Int))) : List Value := [.int .i64 i.1.1, .int .i64 i.1.2, .int .i64 i.2.1.1, .int .i64 i.2.1.2, .int .i64 i.2.2.1, .int .i64 i.2.2.2]
def rkl (e : Int) (vL vJ vI : Value) : List Value := [.int .i64 e, vL, vJ, vI]
def rpl (p : (Int × Int) × (Int × (((Int × Int) × (Int × Int)) × (((Int × Int) × (Int × Int)) × ((Int × Int) × (Int × Int)))))) : List Value :=
  [.int .i64 p.1.1, .int .i64 p.1.2, .int .i64 p.2.1, .int .i64 p.2.2.1.1.1, .int .i64 p.2.2.1.1.2, .int .i64 p.2.2.1.2.1, .int .i64 p.2.2.1.2.2, .int .i64 p.2.2.2.1.1.1, .int .i64 p.2.2.2.1.1.2, .int .i64 p.2.2.2.1.2.1, .int .i64 p.2.2.2.1.2.2, .int .i64 p.2.2.2.2.1.1, .int .i64 p.2.2.2.2.1.2, .int .i64 p.2.2.2.2.2.1, .int .i64 p.2.2.2.2.2.2]
def sdl (d : Int × ((Int × Int) × ByteArray)) : List Value := [.int .i64 d.1, .int .i64 d.2.1.1, .int .i64 d.2.1.2, .string d.2.2]
def mgl (m : Msg) (vL vJ vI : Value) : List Value := .int .i64 m.kd :: (rkl m.rk.1 vL vJ vI ++ (stl m.rq ++ (rpl m.rp ++ sdl m.sd)))
theorem szSeat : (Tryz.prog.info? 55).map (·.size) = some 2 := by kernel_rfl
theorem szBox : (Tryz.prog.info? 31).map (·.size) = some 4 := by kernel_rfl
theorem szItem : (Tryz.prog.info? 53).map (·.size) = some 6 := by kernel_rfl
theorem szKey : (Tryz.prog.info? 29).map (·.size) = some 2 := by kernel_rfl
theorem szRk : (Tryz.prog.info? 25).map (·.size) = some 4 := by kernel_rfl
theorem szRq : (Tryz.prog.info? 27).map (·.size) = some 2 := by kernel_rfl
theorem szRp : (Tryz.prog.info? 34).map (·.size) = some 15 := by kernel_rfl
theorem szSd : (Tryz.prog.info? 36).map (·.size) = some 4 := by kernel_rfl
theorem szMg : (Tryz.prog.info? 38).map (·.size) = some 26 := by kernel_rfl
theorem szPa : (Tryz.prog.info? 32).map (·.size) = some 12 := by kernel_rfl
end Go.Proofs.YtdkfifnhmfbagaaGreat.Wi
