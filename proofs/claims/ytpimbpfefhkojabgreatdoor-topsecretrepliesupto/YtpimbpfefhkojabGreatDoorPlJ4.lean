/- PlS0, PlS, joined. -/
import Derived.Test.YtpimbpfefhkojabGreatDoorTrS
import Derived.Test.YtpimbpfefhkojabGreatDoorPlC
namespace Go.Proofs.YtpimbpfefhkojabGreatDoor
open Go.RowKit Go.Great
open Rt (Ky zK kcs)
open Rs (En zE rcs)
set_option linter.unusedVariables false
set_option linter.unusedSimpArgs false

theorem built_zero : Tryz.prog.built 47 [] = some (tcs (tz 0)) := by kernel_rfl
set_option maxRecDepth 100000 in
theorem built_tr (e f : Int) (k : Nat → Ky) (r : Nat → En) : Tryz.prog.built 47 [(0, .int .i64 e), (1, .int .i64 f), (2, .agg (kcs k)), (3, .agg (rcs r))] = some (tcs ⟨e, f, k, r⟩) := by kernel_rfl
theorem builtz (a : Act) : Tryz.prog.built 47 ((#[] : Array (Nat × Operand)).map fun (i, x) => (i, a.eval x)).toList = some (tcs (tz 0)) :=
  (congrArg (Tryz.prog.built 47) (by simp)).trans built_zero
open Go.RowKit Go.Maps Go.Great
open Rt (Ky zK kcs KsAt trE trK cu)
open Rs (En zE rcs RoAt tkn RdI RdS ps ft FitOk evs evl mvE mvR mvL mvJ Tb)

theorem infoRk : (Tryz.prog.info? 55).map (·.size) = some 4 := by kernel_rfl
def rkz : Array Value := #[.int .i64 0, .slice none 0 0, .slice none 0 0, .slice none 0 0]
def RkAt (w : World) (B : Nat) (cs : Array Value) : Prop := w.heap[B]? = some (.cells cs 55 (0, 0))
theorem stRw {T : TypeId} {n : Nat} (hi : (Tryz.prog.info? T).map (·.size) = some n) {ops : Array Oper} {rest : List Oper} {o : Oper} {a : Act} {w : World} {Q : Exit → Act → World → Prop} {B : Nat} {cs : Array Value} (hs : cs.size = n) (h : w.heap[B]? = some (.cells cs T (0, 0))) (ds : Array Value) (hd : ds.size = n) (h1 : ds.all (·.oneCell') = true) (hgd : o.guard = none) (x y : Operand) (ho : o.op = .store T x y)
    (hx : a.eval x = .pointer (some ⟨B, 0, none⟩)) (hy : a.eval y = .agg ds) (k : wpList Tryz.prog ops Q rest (a.put o.dst undef) (w.setRow B ds)) : wpList Tryz.prog ops Q (o :: rest) a w :=
  wpList_store_row hgd T x y ho B ds hx hy T cs h (by rw [hi, hd]) (by rw [hs, hd]) h1 k
theorem results_nx {fn : Func} {p q t : Tmp} (hf : fn.results = #[.cell p 47, .cell q 55, .tmp t]) (tmps : Array Value) (W : World) (K D : Nat) (u : Tr) (cs : Array Value) (hp : tmps[p]? = some (.pointer (some ⟨K, 0, none⟩))) (hq : tmps[q]? = some (.pointer (some ⟨D, 0, none⟩))) (hk : TrAt W K u) (hd : RkAt W D cs) (hc : cs.size = 4) :
    (results fn tmps).run Tryz.prog W = .ok (.tuple #[.agg (tcs u), .agg cs, tmps.getD t undef]) W := by
  have h := run_loadVar_row W K _ 47 _ _ _ hk Tryz.underlying47 rfl (by rw [tcs_size]; exact infoT)
  have h2 := run_loadVar_row W D _ 55 _ _ _ hd Tryz.underlying55 rfl (by rw [hc]; exact infoRk)
  simp [results, hf, hp, hq, asAddr, h, h2]
/- What a step answers. -/
def pnT (t : Tr) (L J : List Int) : Tr := if plE t L J = 0 then nx t L J else tz 0
def pnP (t : Tr) (L J : List Int) : Int := if plE t L J = 0 then t.ep + 1 else 0
def pnL (t : Tr) (L J : List Int) : List (Int × Int) := if plE t L J = 0 then evl t.ro L else []
def pnJ (t : Tr) (L J : List Int) : List (Int × Int) := if plE t L J = 0 then jns t L J else []
def pnI (t : Tr) (L J : List Int) : List It := if plE t L J = 0 then its (nx t L J) (plR t L) (jns t L J) else []
structure NextP (w w' : World) (t : Tr) (L J : List Int) (vl vj vi : Value) : Prop where
  left : w'.ownsRow w.heap.size 107 2 vl (pnL t L J).length (ps (pnL t L J))
  join : w'.ownsRow w.heap.size 107 2 vj (pnJ t L J).length (ps (pnJ t L J))
  item : w'.ownsRow w.heap.size 57 6 vi (pnI t L J).length (isl (pnI t L J))
  apart : vl.ownBlock = none ∨ vl.ownBlock ≠ vj.ownBlock
def NextA (w w' : World) (t : Tr) (L J : List Int) (e : Ending) : Prop := ∃ vl vj vi, e = .returned (.tuple #[.agg (tcs (pnT t L J)), .agg #[.int .i64 (pnP t L J), vl, vj, vi], .int .i64 (plE t L J)]) ∧ NextP w w' t L J vl vj vi
theorem NextA.no {w w' : World} {t : Tr} {L J : List Int} {E : Int} (h : plE t L J = E) (h0 : E ≠ 0) : NextA w w' t L J (.returned (.tuple #[.agg (tcs (tz 0)), .agg rkz, .int .i64 E])) := by
  refine ⟨.slice none 0 0, .slice none 0 0, .slice none 0 0, ?_, ?_, ?_, ?_, .inl rfl⟩
  · unfold pnT pnP; rw [h, if_neg h0, if_neg h0]; rfl
  · unfold pnL; rw [h, if_neg h0]; exact World.ownsRow_nil _ _ _ _
  · unfold pnJ; rw [h, if_neg h0]; exact World.ownsRow_nil _ _ _ _
  · unfold pnI; rw [h, if_neg h0]; exact World.ownsRow_nil _ _ _ _
theorem NextA.yes {w w' : World} {t : Tr} {L J : List Int} {vl vj vi : Value} (h : plE t L J = 0) (h1 : w'.ownsRow w.heap.size 107 2 vl (evl t.ro L).length (ps (evl t.ro L))) (h2 : w'.ownsRow w.heap.size 107 2 vj (jns t L J).length (ps (jns t L J)))
    (h3 : w'.ownsRow w.heap.size 57 6 vi (its (nx t L J) (plR t L) (jns t L J)).length (isl (its (nx t L J) (plR t L) (jns t L J)))) (h4 : vl.ownBlock = none ∨ vl.ownBlock ≠ vj.ownBlock) :
    NextA w w' t L J (.returned (.tuple #[.agg (tcs (nx t L J)), .agg #[.int .i64 (t.ep + 1), vl, vj, vi], .int .i64 0])) := by
  refine ⟨vl, vj, vi, ?_, ?_, ?_, ?_, h4⟩
  · unfold pnT pnP; rw [h, if_pos rfl, if_pos rfl]
  · unfold pnL; rw [if_pos h]; exact h1
  · unfold pnJ; rw [if_pos h]; exact h2
  · unfold pnI; rw [if_pos h]; exact h3
end Go.Proofs.YtpimbpfefhkojabGreatDoor
