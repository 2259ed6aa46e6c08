/- PlJ, PlK, PlM, PlN, PlO, PlW0, PlW, PlV1, PlV, joined. -/
import Derived.Test.YtdkfifnhmfbagaaGreatDoorPlJ7
import Derived.Maps.OwnSet
import Derived.Deep.LoopGhost
import Derived.Test.YtdkfifnhmfbagaaGreatDoorRsJ5
import Derived.Great.BuildSlice
import Derived.Great.FillDense
import Derived.Test.YtdkfifnhmfbagaaGreatDoorShK
import Derived.Maps.AppendAt
namespace Go.Proofs.YtdkfifnhmfbagaaGreatDoor
open Go.RowKit Go.Maps Go.Great
open Rt (Ky zK kcs)
open Rs (En zE rcs tkn RdI RdS ps evl Tb)
set_option linter.unusedVariables false
set_option linter.unusedSimpArgs false
def icv (x : It) : Array Value := #[.int .i64 x.nd, .int .i64 x.fm, .int .i64 x.un.bas, .int .i64 x.un.stp, .int .i64 x.ld.bas, .int .i64 x.ld.stp]
set_option maxRecDepth 100000 in
theorem run_eqIt (x : It) (w : World) : (Op.equalIn 10000 112 (.agg (icv x)) (.agg (icv x))).run Tryz.prog w = .ok true w := by
 rw [run_equalIn_agg w 9999 112 _ _ (by kernel_rfl) (by kernel_rfl)]
 unfold icv
 simp [go_sem, part]
theorem neIt_exec {w : World} {z : It} {o : Oper} {a : Act} {x y : Operand} (ho : o.op = .binOp .neq 112 x y 112) (hx : a.eval x = .agg (icv z)) (hy : a.eval y = .agg (icv z)) : (execOp a.eval o).run Tryz.prog w = .ok (.value (.bool false)) w := by
 have h1 := run_eqGuard_agg (P := Tryz.prog) w .neq 112 x y (icv z) (icv z) Tryz.eqGuardType112
 have h2 := run_neq_struct (P := Tryz.prog) w 112 (icv z) (icv z)
 rw [run_eqIt] at h2
 simp [execOp, ho, hx, hy, h1, h2, Sem.run_bind, Result.andThen]
theorem RkAt.cells {w : World} {B : Nat} {p : Int} {v1 v2 v3 : Value} (h : RkAt w B #[.int .i64 p, v1, v2, v3]) : w.cell? ⟨B, 0, none⟩ = some (.int .i64 p) ∧ w.cell? ⟨B, 1, none⟩ = some v1 ∧ w.cell? ⟨B, 2, none⟩ = some v2 ∧ w.cell? ⟨B, 3, none⟩ = some v3 :=
 ⟨cell_of_row w B 0 _ _ _ h, cell_of_row w B 1 _ _ _ h, cell_of_row w B 2 _ _ _ h, cell_of_row w B 3 _ _ _ h⟩
/- Lists of items. -/
structure IS (W : World) (b b' k : Nat) (y : It) : Prop where
 x0 : W.cell? ⟨b, k * 6, none⟩ = some (.int .i64 y.nd)
 x1 : W.cell? ⟨b, k * 6 + 1, none⟩ = some (.int .i64 y.fm)
 x2 : W.cell? ⟨b, k * 6 + 2, none⟩ = some (.int .i64 y.un.bas)
 x3 : W.cell? ⟨b, k * 6 + 3, none⟩ = some (.int .i64 y.un.stp)
 x4 : W.cell? ⟨b, k * 6 + 4, none⟩ = some (.int .i64 y.ld.bas)
 x5 : W.cell? ⟨b, k * 6 + 5, none⟩ = some (.int .i64 y.ld.stp)
 z0 : W.cell? ⟨b', k * 6, none⟩ = some (.int .i64 y.nd)
 z1 : W.cell? ⟨b', k * 6 + 1, none⟩ = some (.int .i64 y.fm)
 z2 : W.cell? ⟨b', k * 6 + 2, none⟩ = some (.int .i64 y.un.bas)
 z3 : W.cell? ⟨b', k * 6 + 3, none⟩ = some (.int .i64 y.un.stp)
 z4 : W.cell? ⟨b', k * 6 + 4, none⟩ = some (.int .i64 y.ld.bas)
 z5 : W.cell? ⟨b', k * 6 + 5, none⟩ = some (.int .i64 y.ld.stp)
set_option maxRecDepth 100000 in
set_option maxHeartbeats 1000000 in
theorem sameI_any (a a' : Option Addr) (c c' : Nat) (l : List It) (w : World) (hl : l.length ≤ 4096) (h1 : RdT w a l) (h2 : RdT w a' l) :
  Calls Tryz.prog 53 #[.slice a l.length c, .slice a' l.length c'] w fun e w' => e = .returned (.bool true) ∧ Below w.heap.size w w' := by
 go_enter Tryz.func53, Tryz.ntmps53
 go_wp2_with fail
 go_loopw [13] (fun i wx => ∃ k : Nat, k ≤ l.length ∧ i = .int .i64 (k : Int) ∧ Below w.heap.size w wx) (fun i _ => l.length - (intOf i).toNat)
 case atStart => exact ⟨0, by omega, rfl, Below.refl _ _⟩
 case round =>
  obtain ⟨k, hk, rfl, hb⟩ := hrel
  have HB : Hid (Below w.heap.size w wr) := hb
  clear hb
  by_cases hkN : k < l.length
  ·have i1 : (0 : Int) ≤ (k : Int) := by omega
   have i2 : (k : Int) < (l.length : Int) := by omega
   obtain ⟨y, hy⟩ : ∃ y, l.getD k ⟨0, 0, zK, zK⟩ = y := ⟨_, rfl⟩
   obtain ⟨b, hal, x0, x1, x2, x3, x4, x5⟩ := (h1.later HB.out).cells hkN hy
   obtain ⟨b', hal', z0, z1, z2, z3, z4, z5⟩ := (h2.later HB.out).cells hkN hy
   subst hal hal'
   clear hy
   go_upto_region 6 with (fail)
   have hS0 : IS wr.drew b b' k y := ⟨x0, x1, x2, x3, x4, x5, z0, z1, z2, z3, z4, z5⟩
   clear x0 x1 x2 x3 x4 x5 z0 z1 z2 z3 z4 z5
   refine wp_region_held_drew (S := fun W => IS W b b' k y) (by kernel_rfl) hS0 (fun hHeld => ?_)
   refine wpAnyH_take (i := 0) (oi := ⟨some 16, Op.move (.tmp 0), _, _, _, none⟩) (v := .slice (some ⟨b, 0, none⟩) l.length c) rfl (by kernel_rfl) (by kernel_rfl) (by kernel_rfl) (fun _ _ _ h => h) (Or.inl ⟨by rfl, fun w hSw => by (try dsimp only at hSw); go_simp⟩) (by assumption) ?_
   simp only [Act.put, List.setIfInBounds_toArray, List.set_cons_zero, List.set_cons_succ]
   refine wpAnyH_take (i := 1) (oi := ⟨some 17, Op.move (.tmp 5), _, _, _, none⟩) (v := .int .i64 (k : Int)) rfl (by kernel_rfl) (by kernel_rfl) (by kernel_rfl) (fun _ _ _ h => h) (Or.inl ⟨by rfl, fun w hSw => by (try dsimp only at hSw); go_simp⟩) (by assumption) ?_
   simp only [Act.put, List.setIfInBounds_toArray, List.set_cons_zero, List.set_cons_succ]
   refine wpAnyH_take (i := 2) (oi := ⟨some 18, Op.indexAddr 29 (.tmp 16) (.tmp 17), _, _, _, none⟩) (v := .pointer (some ⟨b, k * 6, none⟩)) rfl (by kernel_rfl) (by kernel_rfl) (by kernel_rfl) (fun _ _ _ h => h) (Or.inl ⟨by rfl, fun w hSw => by (try dsimp only at hSw); go_simp⟩) (by assumption) ?_
   simp only [Act.put, List.setIfInBounds_toArray, List.set_cons_zero, List.set_cons_succ]
   refine wpAnyH_take (i := 3) (oi := ⟨some 19, Op.load 112 (.tmp 18), _, _, _, none⟩) (v := .agg (icv y)) rfl (by kernel_rfl) (by kernel_rfl) (by kernel_rfl) (fun _ _ _ h => h) (Or.inl ⟨by rfl, fun w hSw => by obtain ⟨x0, x1, x2, x3, x4, x5, _⟩ := hSw; unfold icv; go_simp⟩) (by assumption) ?_
   simp only [Act.put, List.setIfInBounds_toArray, List.set_cons_zero, List.set_cons_succ]
   refine wpAnyH_take (i := 4) (oi := ⟨some 20, Op.move (.tmp 1), _, _, _, none⟩) (v := .slice (some ⟨b', 0, none⟩) l.length c') rfl (by kernel_rfl) (by kernel_rfl) (by kernel_rfl) (fun _ _ _ h => h) (Or.inl ⟨by rfl, fun w hSw => by (try dsimp only at hSw); go_simp⟩) (by assumption) ?_
   simp only [Act.put, List.setIfInBounds_toArray, List.set_cons_zero, List.set_cons_succ]
   refine wpAnyH_take (i := 5) (oi := ⟨some 21, Op.move (.tmp 5), _, _, _, none⟩) (v := .int .i64 (k : Int)) rfl (by kernel_rfl) (by kernel_rfl) (by kernel_rfl) (fun _ _ _ h => h) (Or.inl ⟨by rfl, fun w hSw => by (try dsimp only at hSw); go_simp⟩) (by assumption) ?_
   simp only [Act.put, List.setIfInBounds_toArray, List.set_cons_zero, List.set_cons_succ]
   refine wpAnyH_take (i := 6) (oi := ⟨some 22, Op.indexAddr 29 (.tmp 20) (.tmp 21), _, _, _, none⟩) (v := .pointer (some ⟨b', k * 6, none⟩)) rfl (by kernel_rfl) (by kernel_rfl) (by kernel_rfl) (fun _ _ _ h => h) (Or.inl ⟨by rfl, fun w hSw => by (try dsimp only at hSw); go_simp⟩) (by assumption) ?_
   simp only [Act.put, List.setIfInBounds_toArray, List.set_cons_zero, List.set_cons_succ]
   refine wpAnyH_take (i := 7) (oi := ⟨some 23, Op.load 112 (.tmp 22), _, _, _, none⟩) (v := .agg (icv y)) rfl (by kernel_rfl) (by kernel_rfl) (by kernel_rfl) (fun _ _ _ h => h) (Or.inl ⟨by rfl, fun w hSw => by obtain ⟨_, _, _, _, _, _, z0, z1, z2, z3, z4, z5⟩ := hSw; unfold icv; go_simp⟩) (by assumption) ?_
   simp only [Act.put, List.setIfInBounds_toArray, List.set_cons_zero, List.set_cons_succ]
   refine wpAnyH_take (i := 8) (oi := ⟨some 24, Op.binOp BinOp.neq 112 (.tmp 19) (.tmp 23) 112, _, _, _, none⟩) (v := .bool false) rfl (by kernel_rfl) (by kernel_rfl) (by kernel_rfl) (fun _ _ _ h => h) (Or.inl ⟨by rfl, fun w hSw => neIt_exec (z := y) rfl rfl rfl⟩) (by assumption) ?_
   simp only [Act.put, List.setIfInBounds_toArray, List.set_cons_zero, List.set_cons_succ]
   refine wpAnyH_done (by kernel_rfl) ?_ _
   go_wp2_with fail
   go_roundw
   case rel => exact ⟨k + 1, by omega, by go_num, HB.out.trans ((drew_below wr).mono HB.out.size)⟩
   case measure => simp [intOf]; omega
  ·obtain rfl : k = l.length := by omega
   have hdk : decide ((l.length : Int) < (l.length : Int)) = false := by simp
   go_wp2_with fail
   go_ret
   exact ⟨rfl, HB.out⟩
theorem RkAt.later {w w' : World} {B : Nat} {cs : Array Value} (h : RkAt w B cs) (hb : Below w.heap.size w w') : RkAt w' B cs := (hb.block B (Array.getElem?_eq_some_iff.1 h).1).trans h
set_option maxRecDepth 100000 in
set_option maxHeartbeats 1000000 in
theorem same_any (p : Int) (a1 a2 a3 b1 b2 b3 : Option Addr) (c1 c2 c3 d1 d2 d3 : Nat) (ll lj : List (Int × Int)) (li : List It) (w : World) (l1 : ll.length ≤ 4096) (l2 : lj.length ≤ 4096) (l3 : li.length ≤ 4096)
  (r1 : RdS w a1 ll) (r2 : RdS w a2 lj) (r3 : RdT w a3 li) (s1 : RdS w b1 ll) (s2 : RdS w b2 lj) (s3 : RdT w b3 li) :
  Calls Tryz.prog 23 #[.agg #[.int .i64 p, .slice a1 ll.length c1, .slice a2 lj.length c2, .slice a3 li.length c3], .agg #[.int .i64 p, .slice b1 ll.length d1, .slice b2 lj.length d2, .slice b3 li.length d3] ] w fun e w' => e = .returned (.bool true) ∧ Below w.heap.size w w' := by
 have h1 : RkAt ((w.alloc (.cells #[.int .i64 p, .slice a1 ll.length c1, .slice a2 lj.length c2, .slice a3 li.length c3] 31)).alloc (.cells #[.int .i64 p, .slice b1 ll.length d1, .slice b2 lj.length d2, .slice b3 li.length d3] 31)) w.heap.size #[.int .i64 p, .slice a1 ll.length c1, .slice a2 lj.length c2, .slice a3 li.length c3] :=
  RkAt.later (heap_alloc_last w _) (below_alloc _ _)
 have h2 : RkAt ((w.alloc (.cells #[.int .i64 p, .slice a1 ll.length c1, .slice a2 lj.length c2, .slice a3 li.length c3] 31)).alloc (.cells #[.int .i64 p, .slice b1 ll.length d1, .slice b2 lj.length d2, .slice b3 li.length d3] 31)) (w.heap.size + 1) #[.int .i64 p, .slice b1 ll.length d1, .slice b2 lj.length d2, .slice b3 li.length d3] := by
  have h := heap_alloc_last (w.alloc (.cells #[.int .i64 p, .slice a1 ll.length c1, .slice a2 lj.length c2, .slice a3 li.length c3] 31)) (.cells #[.int .i64 p, .slice b1 ll.length d1, .slice b2 lj.length d2, .slice b3 li.length d3] 31)
  rw [World.size_alloc] at h
  exact h
 have hB1 : Below w.heap.size w ((w.alloc (.cells #[.int .i64 p, .slice a1 ll.length c1, .slice a2 lj.length c2, .slice a3 li.length c3] 31)).alloc (.cells #[.int .i64 p, .slice b1 ll.length d1, .slice b2 lj.length d2, .slice b3 li.length d3] 31)) := ((Below.refl _ w).alloc (Nat.le_refl _) _).alloc (by simp) _
 go_enter Tryz.func23, Tryz.ntmps23
 go_upto_region 1 with (fail)
 generalize (w.alloc (.cells #[.int .i64 p, .slice a1 ll.length c1, .slice a2 lj.length c2, .slice a3 li.length c3] 31)).alloc (.cells #[.int .i64 p, .slice b1 ll.length d1, .slice b2 lj.length d2, .slice b3 li.length d3] 31) = w1 at *
 obtain ⟨D, hD⟩ : ∃ D, w.heap.size + 1 = D := ⟨_, rfl⟩
 rw [hD] at h2 ⊢
 obtain ⟨C, hC⟩ : ∃ D, w.heap.size = D := ⟨_, rfl⟩
 rw [hC] at h1
 rw [hC]
 clear hD hC
 obtain ⟨x0, x1, x2, x3⟩ := h1.cells
 obtain ⟨y0, y1, y2, y3⟩ := h2.cells
 have m1 := Rs.sameS_any a1 b1 c1 d1 ll w1 (by omega) (r1.later hB1) (s1.later hB1)
 go_wp2_with fail
 refine m1.mono ?_
 rintro r w2 ⟨rfl, hb2⟩
 have h3 := h1.later hb2
 have h4 := h2.later hb2
 have hB2 := hB1.trans (hb2.mono hB1.size)
 clear m1 h1 h2 x0 x1 x2 x3 y0 y1 y2 y3 hb2 hB1
 obtain ⟨x0, x1, x2, x3⟩ := h3.cells
 obtain ⟨y0, y1, y2, y3⟩ := h4.cells
 have m1 := Rs.sameS_any a2 b2 c2 d2 lj w2 (by omega) (r2.later hB2) (s2.later hB2)
 go_wp2_with fail
 refine m1.mono ?_
 rintro r w3 ⟨rfl, hb3⟩
 have h5 := h3.later hb3
 have h6 := h4.later hb3
 have hB3 := hB2.trans (hb3.mono hB2.size)
 clear m1 h3 h4 x0 x1 x2 x3 y0 y1 y2 y3 hb3 hB2
 obtain ⟨x0, x1, x2, x3⟩ := h5.cells
 obtain ⟨y0, y1, y2, y3⟩ := h6.cells
 have m1 := sameI_any a3 b3 c3 d3 li w3 l3 (r3.later hB3) (s3.later hB3)
 go_wp2_with fail
 refine m1.mono ?_
 rintro r w4 ⟨rfl, hb4⟩
 have hB4 := hB3.trans (hb4.mono hB3.size)
 clear m1 h5 h6 x0 x1 x2 x3 y0 y1 y2 y3 hb4 hB3
 go_wp2_with fail
 go_ret
 exact ⟨rfl, hB4⟩
/- Lengths of what a step answers. -/
theorem pnL_len (t : Tr) (L J : List Int) : (pnL t L J).length ≤ 64 := by
 unfold pnL
 split
 ·rename_i h; rw [Rs.evl_length]; exact (plE_stp h).fit.lenL
 ·simp
theorem jns_len (t : Tr) (L J : List Int) : (jns t L J).length = J.length := by unfold jns; rw [Rs.adl_length]
theorem pnJ_len (t : Tr) (L J : List Int) : (pnJ t L J).length ≤ 64 := by
 unfold pnJ
 split
 ·rename_i h; rw [jns_len]; exact (plE_stp h).fit.lenJ
 ·simp
theorem pnI_len (t : Tr) (L J : List Int) : (pnI t L J).length ≤ 12 * ((pnL t L J).length + (pnJ t L J).length) := by
 unfold pnI pnL pnJ
 split
 ·exact its_len _ _ _
 ·simp
theorem pnI_short (t : Tr) (L J : List Int) : (pnI t L J).length ≤ 4096 := by
 have h1 := pnI_len t L J
 have h2 := pnL_len t L J
 have h3 := pnJ_len t L J
 omega
open Go.RowKit Go.Maps
open Rt (Ky zK)
open Rs (RdS ps)
def Wi (x : Int) : Prop := (Lit.int .i64 x).wf = true
open Rt (Ky zK KyAt)
open Rs (En zE tkn RdS RdI ps evl)
/- Keys that are gathered. -/
structure BK (w W : World) (v : Value) (l : List (Int × Int)) : Prop where
 bel : Below w.heap.size w W
 row : W.ownsRow w.heap.size 38 2 v l.length (ps l)
open Rs (En zE rcs tkn fnd RdS RdI ps)
open Sh (belB lef)
def trl (ts : List Tr) : List Value := ts.flatMap fun t => (tcs t).toList
theorem trl_snoc (ts : List Tr) (t : Tr) : trl (ts ++ [t]) = trl ts ++ (tcs t).toList := by simp [trl]
theorem trl_len (ts : List Tr) : (trl ts).length = ts.length * 236 := by
 induction ts with
 | nil => rfl
 | cons t ts ih =>
  have e : trl (t :: ts) = (tcs t).toList ++ trl ts := rfl
  rw [e, List.length_append, ih, Array.length_toList, tcs_size, List.length_cons]
  omega
theorem trl_get : ∀ (ts : List Tr) (i j : Nat), i < ts.length → j < 236 → (trl ts)[i * 236 + j]? = (tcs (ts.getD i (tz 0)))[j]?
 | [], i, j, hi, _ => by cases hi
 | t :: ts, 0, j, _, hj => by
  have e : trl (t :: ts) = (tcs t).toList ++ trl ts := rfl
  rw [e, Nat.zero_mul, Nat.zero_add, List.getElem?_append_left (by rw [Array.length_toList, tcs_size]; exact hj), Array.getElem?_toList]
  rfl
 | t :: ts, i + 1, j, hi, hj => by
  have e : trl (t :: ts) = (tcs t).toList ++ trl ts := rfl
  rw [e, List.getElem?_append_right (by rw [Array.length_toList, tcs_size]; omega), Array.length_toList, tcs_size, show (i + 1) * 236 + j - 236 = i * 236 + j by omega, trl_get ts i j (by simpa using hi) hj]
  rfl
/- A row that may be read. -/
def RdR (w : World) (a : Option Addr) (ts : List Tr) : Prop := ∀ i, i < ts.length → ∃ b cs, a = some ⟨b, 0, none⟩ ∧ w.heap[b]? = some (.cells cs 62 (0, 0)) ∧ ∀ j, j < 236 → cs[i * 236 + j]? = (tcs (ts.getD i (tz 0)))[j]?
theorem RdR.later {w w' : World} {a : Option Addr} {ts : List Tr} (h : RdR w a ts) (hb : Below w.heap.size w w') : RdR w' a ts := fun i hi => by
 obtain ⟨b, cs, e, h1, h2⟩ := h i hi
 exact ⟨b, cs, e, (hb.block b (Array.getElem?_eq_some_iff.1 h1).1).trans h1, h2⟩
theorem owns_rdR {W : World} {b : Nat} {a : Option Addr} {cap : Nat} {ts : List Tr} (h : W.ownsRow b 62 236 (.slice a ts.length cap) ts.length (trl ts)) : RdR W a ts := fun i hi => by
 rcases h.2 with ⟨h0, h1⟩ | ⟨g, cap', cur, e, h3, h4, h5, h6, h7, h8⟩
 ·omega
 ·simp at e
  obtain ⟨rfl, rfl⟩ := e
  refine ⟨g, cur, rfl, h4, fun j hj => ?_⟩
  rw [← trl_get ts i j hi hj, ← h8, List.getElem?_take_of_lt (by omega)]
  simp
theorem RdR.tree {w : World} {a : Option Addr} {ts : List Tr} (h : RdR w a ts) {i : Nat} (hi : i < ts.length) {t : Tr} (ht : ts.getD i (tz 0) = t) : ∃ b, a = some ⟨b, 0, none⟩ ∧ (Instr.loadAt 62 (.pointer (some ⟨b, i * 236, none⟩))).run Tryz.prog w = .ok (.agg (tcs t)) w ∧ (Instr.loadAt 60 (.pointer (some ⟨b, i * 236 + 44, none⟩))).run Tryz.prog w = .ok (.agg (rcs t.ro)) w := by
 obtain ⟨b, cs, e, h1, h2⟩ := h i hi
 rw [ht] at h2
 refine ⟨b, e, part_run h1 Tryz.underlying62 rfl infoT (i * 236) (tcs_size t) h2, part_run h1 Tryz.underlying60 rfl (n := 192) ?_ (i * 236 + 44) (by simp) fun j hj => ?_⟩
 ·kernel_rfl
 ·rw [Nat.add_assoc, h2 (44 + j) (by omega), tcs_ro]
/- A slice literal of one tree. -/
theorem bsT {ops : Array Oper} {rest : List Oper} {o : Oper} {a : Act} {w : World} {Q : Exit → Act → World → Prop} {t : Tr} {c : Array Value} (hc : tcs t = c) (hg : o.guard = none) (x : Operand) (ho : o.op = .buildSlice 24 1 #[(0, x)]) (hx : a.eval x = .agg c)
  (h : wpList Tryz.prog ops Q rest (a.put o.dst (.slice (some ⟨w.heap.size, 0, none⟩) 1 1)) (w.alloc (.cells c 62))) : wpList Tryz.prog ops Q (o :: rest) a w := by
 have hsz : (Tryz.prog.info? 62).map (·.size) = some 236 := infoT
 cases hie : Tryz.prog.info? 62 with
 | none => rw [hie] at hsz; cases hsz
 | some ie =>
  rw [hie] at hsz
  simp at hsz
  have hzz : (Tryz.prog.info? 62).bind (·.zero) = some (.agg (tcs (tz 0))) := by rw [← zero236]; kernel_rfl
  rw [hie] at hzz
  have hz : ie.zero = some (.agg (tcs (tz 0))) := by simpa using hzz
  refine wpList_buildSlice hg 24 62 1 #[(0, x)] ho c ie _ Tryz.underlying24 hie hz (by rw [hsz]; decide) (by rw [hsz]; decide) ?_ h
  obtain ⟨r, h1, h2, h3⟩ := Great.fill_dense (s := 236) (by decide) [.agg c] 0 ((Array.range (1 * ie.size)).map ((Value.agg (tcs (tz 0))).cells[· % (Value.agg (tcs (tz 0))).cells.size]!)) (fun v hv => by
   rw [List.mem_singleton.1 hv]
   show c.size = 236
   rw [← hc]; exact tcs_size t) (by simp [hsz])
  have e : (#[(0, x)].map fun (y : Nat × Operand) => (y.1, a.eval y.2)).toList = ([Value.agg c].zipIdx 0).map fun x => (x.2, x.1) := by simp [hx]
  rw [show ((#[(0, x)] : Array (Nat × Operand)).map fun (i, x) => (i, a.eval x)).toList = ([Value.agg c].zipIdx 0).map fun x => (x.2, x.1) from e]
  rw [hsz] at h1 h2 h3 ⊢
  rw [h1]
  refine congrArg some ?_
  apply Array.ext_getElem?
  intro k
  rw [h3 k]
  have hcs : c.size = 236 := by rw [← hc]; exact tcs_size t
  by_cases hk : k < 236
  ·rw [if_pos (by simp; omega), Nat.div_eq_of_lt hk, Nat.mod_eq_of_lt hk]
   rfl
  ·rw [if_neg (by simp; omega), Array.getElem?_eq_none (by simp; omega), Array.getElem?_eq_none (by omega)]
open Rs (Slot own_ne)
section
variable {W W' : World}
theorem own_ne2 {b b' : Nat} {e e' : TypeId} {sz sz' : Nat} {v v' : Value} {n n' : Nat} {xs xs' : List Value} (h : W.ownsRow b e sz v n xs) (h' : W.ownsRow b' e' sz' v' n' xs') (hne : e ≠ e') {g : Nat} (hg : v'.ownBlock = some g) : v.ownBlock ≠ some g := by
 rcases h'.2 with ⟨rfl, _⟩ | ⟨g', cap, cur, rfl, h3, h4, _⟩
 ·simp [Value.ownBlock] at hg
 ·simp [Value.ownBlock] at hg
  subst hg
  exact own_ne h ⟨cur, h4, Nat.zero_le _⟩ hne
end
open Rs (Ke Slot own_set own_ge own_ne own_other ps RdS RdI row_setCell other_setCell row_frozen grown_bel)
section
variable {w V W W' : World} {s7 s9 BM ga gb nA nB : Nat} {p : Int} {vl vj vi : Value} {nl nj ni : Nat}
end
section
variable {w V W : World} {s7 s9 BM ga gb nA nB : Nat} {cs : Array Value} {gj n : Nat} {x : Value}
end
end Go.Proofs.YtdkfifnhmfbagaaGreatDoor
