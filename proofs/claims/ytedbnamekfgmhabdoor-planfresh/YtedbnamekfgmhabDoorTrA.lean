/- Trees in a block: loads of the whole and of its parts; '==' of whole trees. -/
import Derived.Test.YtedbnamekfgmhabDoorTrMath
import Derived.Test.YtedbnamekfgmhabDoorRsJ2
import Derived.Test.YtedbnamekfgmhabDoorRtJ
namespace Go.Proofs.YtedbnamekfgmhabDoor
open Go.RowKit
open Rt (Ky zK kcs KsAt KyAt eqY eqA)
open Rs (En zE rcs RoAt EnAt eqE eqB)
set_option linter.unusedVariables false
set_option maxRecDepth 20000
set_option linter.unusedSimpArgs false

theorem infoT : (Tryd.prog.info? 31).map (·.size) = some 236 := by kernel_rfl
def TrAt (w : World) (B : Nat) (t : Tr) : Prop := w.heap[B]? = some (.cells (tcs t) 31 (0, 0))
theorem TrAt.lt {w : World} {B : Nat} {t : Tr} (h : TrAt w B t) : B < w.heap.size := (Array.getElem?_eq_some_iff.1 h).1
theorem TrAt.below {n : Nat} {w w' : World} {B : Nat} {t : Tr} (h : TrAt w B t) (hb : Below n w w') (hn : B < n) : TrAt w' B t := (hb.block B hn).trans h
theorem TrAt.later {w w' : World} {B : Nat} {t : Tr} (h : TrAt w B t) (hb : Below w.heap.size w w') : TrAt w' B t := h.below hb h.lt
theorem TrAt.new (w : World) (t : Tr) : TrAt (w.alloc (.cells (tcs t) 31)) w.heap.size t := heap_alloc_last w _
theorem alloc_tr (w : World) (t : Tr) : Below w.heap.size w (w.alloc (.cells (tcs t) 31)) := (Below.refl _ w).alloc (Nat.le_refl _) _
theorem below_alloc (w : World) (o : Obj) : Below w.heap.size w (w.alloc o) := (Below.refl _ w).alloc (Nat.le_refl _) _
theorem drew_below (w : World) : Below w.heap.size w w.drew := ⟨rfl, rfl, rfl, Nat.le_refl _, fun _ _ => rfl⟩
theorem dn_below (w : World) (n : Nat) : Below w.heap.size w (w.drewN n) := ⟨rfl, rfl, rfl, Nat.le_refl _, fun _ _ => rfl⟩
theorem cell_alloc_lt {w : World} {a : Addr} {v : Value} (h : w.cell? a = some v) (o : Obj) : (w.alloc o).cell? a = some v := cell_later ((Below.refl _ w).alloc (Nat.le_refl _) o) h
theorem TrAt.cells {w : World} {B : Nat} {t : Tr} (h : TrAt w B t) : w.cell? ⟨B, 0, none⟩ = some (.int .i64 t.ep) ∧ w.cell? ⟨B, 1, none⟩ = some (.int .i64 t.fr) :=
  ⟨(cell_of_row w B _ _ _ _ h).trans (tcs_0 t), (cell_of_row w B _ _ _ _ h).trans (tcs_1 t)⟩
theorem TrAt.key {w : World} {B : Nat} {t : Tr} (h : TrAt w B t) (k : Nat) (hk : k < 21) : w.cell? ⟨B, 2 + k * 2, none⟩ = some (.int .i64 (t.ks k).bas) ∧ w.cell? ⟨B, 2 + k * 2 + 1, none⟩ = some (.int .i64 (t.ks k).stp) := by
  obtain ⟨h0, h1⟩ := Rt.kcs_get t.ks k hk
  exact ⟨(cell_of_row w B _ _ _ _ h).trans ((tcs_ks t _ (by omega)).trans h0), by rw [Nat.add_assoc]; exact (cell_of_row w B _ _ _ _ h).trans ((tcs_ks t _ (by omega)).trans h1)⟩
theorem TrAt.ent {w : World} {B : Nat} {t : Tr} (h : TrAt w B t) (k : Nat) (hk : k < 64) : w.cell? ⟨B, 44 + k * 3, none⟩ = some (.int .i64 (t.ro k).who) ∧ w.cell? ⟨B, 44 + k * 3 + 1, none⟩ = some (.int .i64 (t.ro k).bas) ∧ w.cell? ⟨B, 44 + k * 3 + 2, none⟩ = some (.int .i64 (t.ro k).snc) := by
  obtain ⟨h0, h1, h2⟩ := Rs.rcs_get t.ro k hk
  exact ⟨(cell_of_row w B _ _ _ _ h).trans ((tcs_ro t _).trans h0), by rw [Nat.add_assoc]; exact (cell_of_row w B _ _ _ _ h).trans ((tcs_ro t _).trans h1), by rw [Nat.add_assoc]; exact (cell_of_row w B _ _ _ _ h).trans ((tcs_ro t _).trans h2)⟩
/- A part of a row, loaded as one value. -/
theorem part_run {w : World} {B : Nat} {cs : Array Value} {T0 : TypeId} {fz : Nat × Nat} (h : w.heap[B]? = some (.cells cs T0 fz)) {T : TypeId} {d : TypeDesc} (hu : Tryd.prog.underlying T = some d)
    (hd : (match d with | .struct _ | .array _ _ => true | _ => false) = true) {n : Nat} (hi : (Tryd.prog.info? T).map (·.size) = some n) (o : Nat) {ds : Array Value} (hn : ds.size = n) (hp : ∀ j, j < n → cs[o + j]? = ds[j]?) :
    (Instr.loadAt T (.pointer (some ⟨B, o, none⟩))).run Tryd.prog w = .ok (.agg ds) w := by
  have hl : (loadCells ⟨B, o, none⟩ ds.toList.length).run Tryd.prog w = .ok ds.toList.toArray w :=
    run_loadCells_list (P := Tryd.prog) w ⟨B, o, none⟩ ds.toList (fun j v hv => by
      have hadd : (⟨B, o, none⟩ : Addr).add j = ⟨B, o + j, none⟩ := by unfold Addr.add; split <;> simp_all
      have hv' : ds[j]? = some v := by simpa using hv
      have hj : j < n := by have := (Array.getElem?_eq_some_iff.1 hv').1; omega
      rw [hadd, cell_of_row w B (o + j) _ _ _ h, hp j hj]
      exact hv')
  cases hq : Tryd.prog.info? T with
  | none => rw [hq] at hi; simp at hi
  | some i =>
    have hs : i.size = n := by rw [hq] at hi; simpa using hi
    have hagg : (isAgg T).run Tryd.prog w = .ok true w := by
      unfold isAgg
      rw [Sem.run_bind, run_underlying hu w]
      cases d <;> simp_all
    simp only [Array.length_toList, Array.toArray_toList, hn] at hl
    simp only [Instr.loadAt, Instr.sureAddr, Sem.run_bind, Sem.run_pure, Result.andThen]
    simp only [loadVar, Sem.run_bind, hagg, sizeOf, typeInfo, hq, hs]
    simp [hl, Sem.run_bind, typeInfo, hq, hs]
theorem rd_guard {w : World} {ops : Array Oper} {rest : List Oper} {o : Oper} {a : Act} {Q : Exit → Act → World → Prop} {v : Value} (hw : Region.wanted o (yielded ops a.tmps) = true) (hrun : (execOp a.eval o).run Tryd.prog w = .ok (.value v) w)
    (k : wpList Tryd.prog ops Q rest (a.put o.dst v) w) : wpList Tryd.prog ops Q (o :: rest) a w := by
  refine wpList_step fun K hK => ?_
  rw [if_pos hw]
  unfold Oper.wp
  rw [hrun, Oper.upon_value]
  exact hK _ _ k
theorem ld_exec {w : World} {T : TypeId} {B o : Nat} {v : Value} (h : (Instr.loadAt T (.pointer (some ⟨B, o, none⟩))).run Tryd.prog w = .ok v w) {a : Act} {p : Oper} {x : Operand} (ho : p.op = .load T x) (hx : a.eval x = .pointer (some ⟨B, o, none⟩)) :
    (execOp a.eval p).run Tryd.prog w = .ok (.value v) w := by
  simp [execOp, ho, hx, h, Sem.run_bind, Result.andThen]
theorem TrAt.whole {w : World} {B : Nat} {t : Tr} (h : TrAt w B t) : (Instr.loadAt 31 (.pointer (some ⟨B, 0, none⟩))).run Tryd.prog w = .ok (.agg (tcs t)) w :=
  part_run h Tryd.underlying31 rfl infoT 0 (tcs_size t) fun j hj => by rw [Nat.zero_add]
theorem TrAt.keys {w : World} {B : Nat} {t : Tr} (h : TrAt w B t) : (Instr.loadAt 25 (.pointer (some ⟨B, 2, none⟩))).run Tryd.prog w = .ok (.agg (kcs t.ks)) w :=
  part_run h Tryd.underlying25 rfl Rt.infoK 2 (Rt.kcs_size _) fun j hj => tcs_ks t j hj
theorem TrAt.rost {w : World} {B : Nat} {t : Tr} (h : TrAt w B t) : (Instr.loadAt 29 (.pointer (some ⟨B, 44, none⟩))).run Tryd.prog w = .ok (.agg (rcs t.ro)) w :=
  part_run h Tryd.underlying29 rfl Rs.info25 44 (Rs.rcs_size _) fun j hj => tcs_ro t j
/- The same in a walk: the value as a letter. -/
theorem rdT {w : World} {ops : Array Oper} {rest : List Oper} {o : Oper} {a : Act} {Q : Exit → Act → World → Prop} {B : Nat} {t : Tr} {c : Array Value} (h : TrAt w B t) (hc : tcs t = c) (x : Operand) (ho : o.op = .load 31 x)
    (hx : a.eval x = .pointer (some ⟨B, 0, none⟩)) (hw : Region.wanted o (yielded ops a.tmps) = true) (k : wpList Tryd.prog ops Q rest (a.put o.dst (.agg c)) w) : wpList Tryd.prog ops Q (o :: rest) a w :=
  rd_guard hw (ld_exec (hc ▸ h.whole) ho hx) k
theorem rdK {w : World} {ops : Array Oper} {rest : List Oper} {o : Oper} {a : Act} {Q : Exit → Act → World → Prop} {B : Nat} {t : Tr} {c : Array Value} (h : TrAt w B t) (hc : kcs t.ks = c) (x : Operand) (ho : o.op = .load 25 x)
    (hx : a.eval x = .pointer (some ⟨B, 2, none⟩)) (hw : Region.wanted o (yielded ops a.tmps) = true) (k : wpList Tryd.prog ops Q rest (a.put o.dst (.agg c)) w) : wpList Tryd.prog ops Q (o :: rest) a w :=
  rd_guard hw (ld_exec (hc ▸ h.keys) ho hx) k
theorem rdR {w : World} {ops : Array Oper} {rest : List Oper} {o : Oper} {a : Act} {Q : Exit → Act → World → Prop} {B : Nat} {t : Tr} {c : Array Value} (h : TrAt w B t) (hc : rcs t.ro = c) (x : Operand) (ho : o.op = .load 29 x)
    (hx : a.eval x = .pointer (some ⟨B, 44, none⟩)) (hw : Region.wanted o (yielded ops a.tmps) = true) (k : wpList Tryd.prog ops Q rest (a.put o.dst (.agg c)) w) : wpList Tryd.prog ops Q (o :: rest) a w :=
  rd_guard hw (ld_exec (hc ▸ h.rost) ho hx) k
/- '==' of whole trees. -/
def eqT (t u : Tr) : Bool := decide (t.ep = u.ep) && (decide (t.fr = u.fr) && (eqA t.ks u.ks && eqB t.ro u.ro))
theorem eqT_refl (t : Tr) : eqT t t = true := by unfold eqT; rw [Rt.eqA_refl, Rs.eqB_refl]; simp
theorem run_eqKs' (d : Nat) (f g : Nat → Ky) (w : World) : (Op.equalIn (d + 3) 25 (.agg (kcs f)) (.agg (kcs g))).run Tryd.prog w = .ok (eqA f g) w := by
  obtain ⟨i, hi⟩ := Option.isSome_iff_exists.mp Rt.info_ky
  rw [run_equalIn_array w (d + 2) _ _ Tryd.underlying25 hi]
  have h := Rt.eqItemsK f g d w (List.range 21) fun i hi => List.mem_range.1 hi
  rw [Rt.cells_ky]
  exact h
theorem run_eqRo' (d : Nat) (f g : Nat → En) (w : World) : (Op.equalIn (d + 3) 29 (.agg (rcs f)) (.agg (rcs g))).run Tryd.prog w = .ok (eqB f g) w := by
  obtain ⟨i, hi⟩ := Option.isSome_iff_exists.mp Rs.info_en
  rw [run_equalIn_array w (d + 2) _ _ Tryd.underlying29 hi]
  have h := Rs.eqItems25 f g d w (List.range 64) fun i hi => List.mem_range.1 hi
  rw [Rs.cells_en]
  exact h
theorem ext_ks (t : Tr) : (tcs t).extract 2 44 = kcs t.ks := by
  apply Array.ext
  · simp
  · intro i h1 h2
    have hi : i < 42 := by simpa using h2
    rw [Array.getElem_extract]
    have := tcs_ks t i hi
    rw [Array.getElem?_eq_getElem (by simp; omega), Array.getElem?_eq_getElem (by simpa using hi)] at this
    exact Option.some.inj this
theorem ext_ro (t : Tr) : (tcs t).extract 44 236 = rcs t.ro := by
  apply Array.ext
  · simp
  · intro i h1 h2
    have hi : i < 192 := by simpa using h2
    rw [Array.getElem_extract]
    have := tcs_ro t i
    rw [Array.getElem?_eq_getElem (by simp; omega), Array.getElem?_eq_getElem (by simpa using hi)] at this
    exact Option.some.inj this
set_option maxRecDepth 100000 in
theorem run_eqTr (t u : Tr) (w : World) : (Op.equalIn 10000 31 (.agg (tcs t)) (.agg (tcs u))).run Tryd.prog w = .ok (eqT t u) w := by
  have a1 := tcs_0 t
  have a2 := tcs_1 t
  have a3 := ext_ks t
  have a4 := ext_ro t
  have b1 := tcs_0 u
  have b2 := tcs_1 u
  have b3 := ext_ks u
  have b4 := ext_ro u
  have c3 : (Op.equalIn 9999 25 (.agg (kcs t.ks)) (.agg (kcs u.ks))).run Tryd.prog w = _ := run_eqKs' 9996 t.ks u.ks w
  have c4 : (Op.equalIn 9999 29 (.agg (rcs t.ro)) (.agg (rcs u.ro))).run Tryd.prog w = _ := run_eqRo' 9996 t.ro u.ro w
  rw [run_equalIn_agg w 9999 31 _ _ (by kernel_rfl) (by kernel_rfl)]
  unfold eqT
  generalize tcs t = ct at *
  generalize tcs u = cu at *
  generalize kcs t.ks = k1 at *
  generalize kcs u.ks = k2 at *
  generalize rcs t.ro = r1 at *
  generalize rcs u.ro = r2 at *
  by_cases h1 : t.ep = u.ep <;> by_cases h2 : t.fr = u.fr <;> cases h3 : eqA t.ks u.ks <;> cases h4 : eqB t.ro u.ro <;> simp [go_sem, a1, a2, a3, a4, b1, b2, b3, b4, c3, c4, h1, h2, h3, h4]
theorem eqTr {ops : Array Oper} {rest : List Oper} {o : Oper} {a : Act} {w : World} {Q : Exit → Act → World → Prop} {t u : Tr} {ct cu : Array Value} {b : Bool} (hct : tcs t = ct) (hcu : tcs u = cu) (hb : eqT t u = b) (x y : Operand) (ho : o.op = .binOp .eql 31 x y 31)
    (hx : a.eval x = .agg ct) (hy : a.eval y = .agg cu) (hw : Region.wanted o (yielded ops a.tmps) = true) (k : wpList Tryd.prog ops Q rest (a.put o.dst (.bool b)) w) : wpList Tryd.prog ops Q (o :: rest) a w := by
  subst hb
  refine rd_guard hw ?_ k
  subst hct hcu
  have h1 := run_eqGuard_agg (P := Tryd.prog) w .eql 31 x y (tcs t) (tcs u) Tryd.eqGuardType31
  have h2 := run_eql_struct (P := Tryd.prog) w 31 (tcs t) (tcs u)
  rw [run_eqTr] at h2
  simp [execOp, ho, hx, hy, h1, h2, Sem.run_bind, Result.andThen]
end Go.Proofs.YtedbnamekfgmhabDoor
