/- Maps of marks (people that have been seen): a map from integers to integers that holds 1 at just those of a list. -/
import Derived.Test.YtedbnamekfgmhabDoorRsSm
import Derived.Test.YtedbnamekfgmhabDoorRsJ2
import Derived.Maps.Own
import Derived.Maps.OwnOps
import Derived.Maps.StringElems
namespace Go.Proofs.YtedbnamekfgmhabDoor.Rs
open Go.RowKit Go.Maps
set_option linter.unusedVariables false
set_option linter.unusedSimpArgs false

theorem intK : Keyed Tryd.prog 3 := int_keyed Tryd.underlying3
def mrk (l : List Int) (x : Int) : Int := if x ∈ l then 1 else 0
def Mi (w : World) (b n : Nat) (l : List Int) : Prop := ∃ D : DataW Unit, w.ownsMap Tryd.prog 3 (plainElem Tryd.prog 3) b n D ∧ ∀ x : Int, D.atKey (.int .i64 x) (.lit (.int .i64 0)) = .lit (.int .i64 (mrk l x))
theorem Mi.lt {w : World} {b n : Nat} {l : List Int} (h : Mi w b n l) : b < w.heap.size := by
  obtain ⟨D, h1, _⟩ := h
  exact World.ownsMap.lt h1
theorem Mi.isMap {w : World} {b n : Nat} {l : List Int} (h : Mi w b n l) : ∃ es cl, w.heap[b]? = some (.map es cl) := by
  obtain ⟨D, ⟨es, cl, h1, _⟩, _⟩ := h
  exact ⟨es, cl, h1⟩
theorem Mi.later {w w' : World} {b n : Nat} {l : List Int} (h : Mi w b n l) (hb : Below w.heap.size w w') : Mi w' b n l := by
  have hlt := h.lt
  obtain ⟨D, ⟨es, cl, hh, r⟩, h2⟩ := h
  exact ⟨D, ⟨es, cl, (hb.block b hlt).trans hh, r⟩, h2⟩
theorem Mi.far {w w' : World} {b n : Nat} {l : List Int} {row : Option Nat} (h : Mi w b n l) (hg : w.grownBy w' row) (hne : some b ≠ row) : Mi w' b n l := by
  have hlt := h.lt
  obtain ⟨D, ⟨es, cl, hh, r⟩, h2⟩ := h
  exact ⟨D, ⟨es, cl, (hg.block b hlt hne).trans hh, r⟩, h2⟩
theorem Mi.new (w : World) : Mi (w.alloc (.map #[] 0)) w.heap.size 0 [] := ⟨_, World.ownsMap_made w Tryd.prog 3 _, fun x => rfl⟩
theorem zeroI (w : World) : (zeroValue 3).run Tryd.prog w = .ok (.int .i64 0) w := by kernel_rfl
theorem Mi.look {w : World} {b n : Nat} {l : List Int} (h : Mi w b n l) {x : Int} (hx : (Lit.int .i64 x).wf = true) : (Instr.lookup 43 (.map (some b)) (.int .i64 x) false).run Tryd.prog w = .ok (.int .i64 (mrk l x)) w := by
  obtain ⟨D, h1, h2⟩ := h
  obtain ⟨c, hrun, hat, _⟩ := h1.lookup_int intK Tryd.underlying43 Tryd.underlying3 (zeroI w) (keyOf_int_mk Tryd.underlying3 hx)
  rw [h2 x] at hat
  have e : mrk l x = c := by simpa using hat
  rw [e]
  exact hrun
theorem Mi.exec {w : World} {b n : Nat} {l : List Int} (h : Mi w b n l) {z : Int} (hz : (Lit.int .i64 z).wf = true) {a : Act} {o : Oper} {m x : Operand} (ho : o.op = .lookup 43 m x false) (hm : a.eval m = .map (some b)) (hx : a.eval x = .int .i64 z) : (execOp a.eval o).run Tryd.prog w = .ok (.value (.int .i64 (mrk l z))) w := by
  have := h.look hz
  simp [execOp, ho, hm, hx, this, Sem.run_bind, Result.andThen]
theorem Mi.upd {ops : Array Oper} {rest : List Oper} {o : Oper} {a : Act} {w : World} {Q : Exit → Act → World → Prop} {b n : Nat} {l : List Int} (h : Mi w b n l) (hn : n < 4611686018427387904) {z : Int} (hz : (Lit.int .i64 z).wf = true) (hgd : o.guard = none) (m x y : Operand) (ho : o.op = .mapUpdate 43 m x y)
    (hm : a.eval m = .map (some b)) (hx : a.eval x = .int .i64 z) (hy : a.eval y = .int .i64 1) (k : ∀ w', Mi w' b (n + 1) (l ++ [z]) → w.grownBy w' (some b) → wpList Tryd.prog ops Q rest (a.put o.dst undef) w') : wpList Tryd.prog ops Q (o :: rest) a w := by
  obtain ⟨D, h1, h2⟩ := h
  have hkey := keyOf_int_mk Tryd.underlying3 hz
  refine wpList_mapUpdate_own w hgd m x y 43 ho 3 3 intK Tryd.underlying43 _ b n D hm h1 (by unfold maxLen; omega) _ _ _ hx hy hkey _ [] (plainElem_int (H := Unit) Tryd.underlying3 (by decide)) ?_
  intro w1 hown hg
  refine k w1 ⟨_, hown, fun q => ?_⟩ hg
  have hD := World.ownsMap.isMap h1
  by_cases e : q = z
  · subst e
    rw [Maps.atKey_put_same hD (by trivial)]
    simp [mrk]
  · rw [Maps.atKey_put_other (by intro h; simp at h; exact e h), h2 q]
    have : mrk (l ++ [z]) q = mrk l q := by simp [mrk, e]
    rw [this]
theorem wok_wf {x : Int} (h : wok x = true) : (Lit.int .i64 x).wf = true := by
  simp only [wok, Bool.and_eq_true, decide_eq_true_eq] at h
  exact WalkArith.wf_i64 (by omega)
/- A cell's block is no map. -/
theorem cell_not_map {w : World} {b n : Nat} {l : List Int} (h : Mi w b n l) {a : Addr} {v : Value} (hc : w.cell? a = some v) : a.block ≠ b := by
  obtain ⟨es, cl, hm⟩ := h.isMap
  intro e
  subst e
  simp [World.cell?, hm] at hc
theorem block_not_map {w : World} {b n : Nat} {l : List Int} (h : Mi w b n l) {B : Nat} {cs : Array Value} {t : TypeId} {fr : Nat × Nat} (hB : w.heap[B]? = some (.cells cs t fr)) : B ≠ b := by
  obtain ⟨es, cl, hm⟩ := h.isMap
  intro e
  subst e
  rw [hm] at hB
  cases hB
theorem neq_exec {a : Act} {o : Oper} {w : World} {e d : En} {x y : Operand} (ho : o.op = .binOp .neq 27 x y 27) (hx : a.eval x = .agg #[.int .i64 e.who, .int .i64 e.bas, .int .i64 e.snc]) (hy : a.eval y = .agg #[.int .i64 d.who, .int .i64 d.bas, .int .i64 d.snc]) : (execOp a.eval o).run Tryd.prog w = .ok (.value (.bool (!eqE e d))) w := by
  have h1 := run_eqGuard_agg (P := Tryd.prog) w .neq 27 x y #[.int .i64 e.who, .int .i64 e.bas, .int .i64 e.snc] #[.int .i64 d.who, .int .i64 d.bas, .int .i64 d.snc] Tryd.eqGuardType27
  have h2 := run_neq_struct (P := Tryd.prog) w 27 #[.int .i64 e.who, .int .i64 e.bas, .int .i64 e.snc] #[.int .i64 d.who, .int .i64 d.bas, .int .i64 d.snc]
  rw [run_eqEn 9998] at h2
  simp [execOp, ho, hx, hy, h1, h2, Sem.run_bind, Result.andThen]
end Go.Proofs.YtedbnamekfgmhabDoor.Rs
