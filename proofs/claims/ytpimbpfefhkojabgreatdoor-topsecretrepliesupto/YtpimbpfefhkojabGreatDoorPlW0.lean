/- Rows of trees in memory. -/
import Derived.Test.YtpimbpfefhkojabGreatDoorRsMm
import Derived.Test.YtpimbpfefhkojabGreatDoorPlJ3
import Derived.Great.BuildSlice
import Derived.Great.FillDense
namespace Go.Proofs.YtpimbpfefhkojabGreatDoor
open Go.RowKit Go.Maps
open Rt (Ky zK KyAt)
open Rs (En zE rcs tkn fnd RdS RdI ps)
open Sh (belB lef)
set_option linter.unusedVariables false
set_option linter.unusedSimpArgs false

def trl (ts : List Tr) : List Value := ts.flatMap fun t => (tcs t).toList
theorem trl_snoc (ts : List Tr) (t : Tr) : trl (ts ++ [t]) = trl ts ++ (tcs t).toList := by simp [trl]
theorem trl_len (ts : List Tr) : (trl ts).length = ts.length * 236 := by
  induction ts with
  | nil => rfl
  | cons t ts ih =>
    have e : trl (t :: ts) = (tcs t).toList ++ trl ts := rfl
    rw [e, List.length_append, ih, Array.length_toList, tcs_size, List.length_cons]
    omega
theorem trl_get : ∀ (ts : List Tr) (i j : Nat), i < ts.length → j < 236 → (trl ts)[i * 236 + j]? = (tcs (ts.getD i (tz 0)))[j]?
  | [], i, j, hi, _ => by cases hi
  | t :: ts, 0, j, _, hj => by
    have e : trl (t :: ts) = (tcs t).toList ++ trl ts := rfl
    rw [e, Nat.zero_mul, Nat.zero_add, List.getElem?_append_left (by rw [Array.length_toList, tcs_size]; exact hj), Array.getElem?_toList]
    rfl
  | t :: ts, i + 1, j, hi, hj => by
    have e : trl (t :: ts) = (tcs t).toList ++ trl ts := rfl
    rw [e, List.getElem?_append_right (by rw [Array.length_toList, tcs_size]; omega), Array.length_toList, tcs_size, show (i + 1) * 236 + j - 236 = i * 236 + j by omega, trl_get ts i j (by simpa using hi) hj]
    rfl
/- A row that may be read. -/
def RdR (w : World) (a : Option Addr) (ts : List Tr) : Prop := ∀ i, i < ts.length → ∃ b cs, a = some ⟨b, 0, none⟩ ∧ w.heap[b]? = some (.cells cs 47 (0, 0)) ∧ ∀ j, j < 236 → cs[i * 236 + j]? = (tcs (ts.getD i (tz 0)))[j]?
theorem RdR.later {w w' : World} {a : Option Addr} {ts : List Tr} (h : RdR w a ts) (hb : Below w.heap.size w w') : RdR w' a ts := fun i hi => by
  obtain ⟨b, cs, e, h1, h2⟩ := h i hi
  exact ⟨b, cs, e, (hb.block b (Array.getElem?_eq_some_iff.1 h1).1).trans h1, h2⟩
theorem owns_rdR {W : World} {b : Nat} {a : Option Addr} {cap : Nat} {ts : List Tr} (h : W.ownsRow b 47 236 (.slice a ts.length cap) ts.length (trl ts)) : RdR W a ts := fun i hi => by
  rcases h.2 with ⟨h0, h1⟩ | ⟨g, cap', cur, e, h3, h4, h5, h6, h7, h8⟩
  · omega
  · simp at e
    obtain ⟨rfl, rfl⟩ := e
    refine ⟨g, cur, rfl, h4, fun j hj => ?_⟩
    rw [← trl_get ts i j hi hj, ← h8, List.getElem?_take_of_lt (by omega)]
    simp
theorem RdR.tree {w : World} {a : Option Addr} {ts : List Tr} (h : RdR w a ts) {i : Nat} (hi : i < ts.length) {t : Tr} (ht : ts.getD i (tz 0) = t) : ∃ b, a = some ⟨b, 0, none⟩ ∧ (Instr.loadAt 47 (.pointer (some ⟨b, i * 236, none⟩))).run Tryz.prog w = .ok (.agg (tcs t)) w ∧ (Instr.loadAt 45 (.pointer (some ⟨b, i * 236 + 44, none⟩))).run Tryz.prog w = .ok (.agg (rcs t.ro)) w := by
  obtain ⟨b, cs, e, h1, h2⟩ := h i hi
  rw [ht] at h2
  refine ⟨b, e, part_run h1 Tryz.underlying47 rfl infoT (i * 236) (tcs_size t) h2, part_run h1 Tryz.underlying45 rfl (n := 192) ?_ (i * 236 + 44) (by simp) fun j hj => ?_⟩
  · kernel_rfl
  · rw [Nat.add_assoc, h2 (44 + j) (by omega), tcs_ro]
/- A slice literal of one tree. -/
theorem bsT {ops : Array Oper} {rest : List Oper} {o : Oper} {a : Act} {w : World} {Q : Exit → Act → World → Prop} {t : Tr} {c : Array Value} (hc : tcs t = c) (hg : o.guard = none) (x : Operand) (ho : o.op = .buildSlice 26 1 #[(0, x)]) (hx : a.eval x = .agg c)
    (h : wpList Tryz.prog ops Q rest (a.put o.dst (.slice (some ⟨w.heap.size, 0, none⟩) 1 1)) (w.alloc (.cells c 47))) : wpList Tryz.prog ops Q (o :: rest) a w := by
  have hsz : (Tryz.prog.info? 47).map (·.size) = some 236 := infoT
  cases hie : Tryz.prog.info? 47 with
  | none => rw [hie] at hsz; cases hsz
  | some ie =>
    rw [hie] at hsz
    simp at hsz
    have hzz : (Tryz.prog.info? 47).bind (·.zero) = some (.agg (tcs (tz 0))) := by rw [← zero236]; kernel_rfl
    rw [hie] at hzz
    have hz : ie.zero = some (.agg (tcs (tz 0))) := by simpa using hzz
    refine wpList_buildSlice hg 26 47 1 #[(0, x)] ho c ie _ Tryz.underlying26 hie hz (by rw [hsz]; decide) (by rw [hsz]; decide) ?_ h
    obtain ⟨r, h1, h2, h3⟩ := Great.fill_dense (s := 236) (by decide) [.agg c] 0 ((Array.range (1 * ie.size)).map ((Value.agg (tcs (tz 0))).cells[· % (Value.agg (tcs (tz 0))).cells.size]!)) (fun v hv => by
      rw [List.mem_singleton.1 hv]
      show c.size = 236
      rw [← hc]; exact tcs_size t) (by simp [hsz])
    have e : (#[(0, x)].map fun (y : Nat × Operand) => (y.1, a.eval y.2)).toList = ([Value.agg c].zipIdx 0).map fun x => (x.2, x.1) := by simp [hx]
    rw [show ((#[(0, x)] : Array (Nat × Operand)).map fun (i, x) => (i, a.eval x)).toList = ([Value.agg c].zipIdx 0).map fun x => (x.2, x.1) from e]
    rw [hsz] at h1 h2 h3 ⊢
    rw [h1]
    refine congrArg some ?_
    apply Array.ext_getElem?
    intro k
    rw [h3 k]
    have hcs : c.size = 236 := by rw [← hc]; exact tcs_size t
    by_cases hk : k < 236
    · rw [if_pos (by simp; omega), Nat.div_eq_of_lt hk, Nat.mod_eq_of_lt hk]
      rfl
    · rw [if_neg (by simp; omega), Array.getElem?_eq_none (by simp; omega), Array.getElem?_eq_none (by omega)]
end Go.Proofs.YtpimbpfefhkojabGreatDoor
