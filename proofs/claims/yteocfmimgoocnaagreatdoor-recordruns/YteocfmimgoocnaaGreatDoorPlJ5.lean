/- PlJ, PlK, joined. -/
import Derived.Test.YteocfmimgoocnaaGreatDoorPlI
/- Contracts: lives; the document's SameItems, Same; Cost. -/
namespace Go.Proofs.YteocfmimgoocnaaGreatDoor
open Go.RowKit Go.Maps Go.Great
open Rt (Ky zK kcs)
open Rs (En zE rcs tkn RdI RdS ps evl Tb)
set_option linter.unusedVariables false
set_option linter.unusedSimpArgs false

def icv (x : It) : Array Value := #[.int .i64 x.nd, .int .i64 x.fm, .int .i64 x.un.bas, .int .i64 x.un.stp, .int .i64 x.ld.bas, .int .i64 x.ld.stp]
set_option maxRecDepth 100000 in
theorem run_eqIt (x : It) (w : World) : (Op.equalIn 10000 98 (.agg (icv x)) (.agg (icv x))).run Tryz.prog w = .ok true w := by
  rw [run_equalIn_agg w 9999 98 _ _ (by kernel_rfl) (by kernel_rfl)]
  unfold icv
  simp [go_sem, part]
theorem eqIt_exec {w : World} {z : It} {o : Oper} {a : Act} {x y : Operand} (ho : o.op = .binOp .eql 98 x y 98) (hx : a.eval x = .agg (icv z)) (hy : a.eval y = .agg (icv z)) : (execOp a.eval o).run Tryz.prog w = .ok (.value (.bool true)) w := by
  have h1 := run_eqGuard_agg (P := Tryz.prog) w .eql 98 x y (icv z) (icv z) Tryz.eqGuardType98
  have h2 := run_eql_struct (P := Tryz.prog) w 98 (icv z) (icv z)
  rw [run_eqIt] at h2
  simp [execOp, ho, hx, hy, h1, h2, Sem.run_bind, Result.andThen]
theorem neIt_exec {w : World} {z : It} {o : Oper} {a : Act} {x y : Operand} (ho : o.op = .binOp .neq 98 x y 98) (hx : a.eval x = .agg (icv z)) (hy : a.eval y = .agg (icv z)) : (execOp a.eval o).run Tryz.prog w = .ok (.value (.bool false)) w := by
  have h1 := run_eqGuard_agg (P := Tryz.prog) w .neq 98 x y (icv z) (icv z) Tryz.eqGuardType98
  have h2 := run_neq_struct (P := Tryz.prog) w 98 (icv z) (icv z)
  rw [run_eqIt] at h2
  simp [execOp, ho, hx, hy, h1, h2, Sem.run_bind, Result.andThen]
theorem neTr {ops : Array Oper} {rest : List Oper} {o : Oper} {a : Act} {w : World} {Q : Exit → Act → World → Prop} {t : Tr} {ct : Array Value} (hct : tcs t = ct) (x y : Operand) (ho : o.op = .binOp .neq 31 x y 31)
    (hx : a.eval x = .agg ct) (hy : a.eval y = .agg ct) (hw : Region.wanted o (yielded ops a.tmps) = true) (k : wpList Tryz.prog ops Q rest (a.put o.dst (.bool false)) w) : wpList Tryz.prog ops Q (o :: rest) a w := by
  refine rd_guard hw ?_ k
  subst hct
  have h1 := run_eqGuard_agg (P := Tryz.prog) w .neq 31 x y (tcs t) (tcs t) Tryz.eqGuardType31
  have h2 := run_neq_struct (P := Tryz.prog) w 31 (tcs t) (tcs t)
  rw [run_eqTr, eqT_refl] at h2
  simp [execOp, ho, hx, hy, h1, h2, Sem.run_bind, Result.andThen]
theorem RkAt.cells {w : World} {B : Nat} {p : Int} {v1 v2 v3 : Value} (h : RkAt w B #[.int .i64 p, v1, v2, v3]) : w.cell? ⟨B, 0, none⟩ = some (.int .i64 p) ∧ w.cell? ⟨B, 1, none⟩ = some v1 ∧ w.cell? ⟨B, 2, none⟩ = some v2 ∧ w.cell? ⟨B, 3, none⟩ = some v3 :=
  ⟨cell_of_row w B 0 _ _ _ h, cell_of_row w B 1 _ _ _ h, cell_of_row w B 2 _ _ _ h, cell_of_row w B 3 _ _ _ h⟩
/- Lists of items. -/
structure IS (W : World) (b b' k : Nat) (y : It) : Prop where
  x0 : W.cell? ⟨b, k * 6, none⟩ = some (.int .i64 y.nd)
  x1 : W.cell? ⟨b, k * 6 + 1, none⟩ = some (.int .i64 y.fm)
  x2 : W.cell? ⟨b, k * 6 + 2, none⟩ = some (.int .i64 y.un.bas)
  x3 : W.cell? ⟨b, k * 6 + 3, none⟩ = some (.int .i64 y.un.stp)
  x4 : W.cell? ⟨b, k * 6 + 4, none⟩ = some (.int .i64 y.ld.bas)
  x5 : W.cell? ⟨b, k * 6 + 5, none⟩ = some (.int .i64 y.ld.stp)
  z0 : W.cell? ⟨b', k * 6, none⟩ = some (.int .i64 y.nd)
  z1 : W.cell? ⟨b', k * 6 + 1, none⟩ = some (.int .i64 y.fm)
  z2 : W.cell? ⟨b', k * 6 + 2, none⟩ = some (.int .i64 y.un.bas)
  z3 : W.cell? ⟨b', k * 6 + 3, none⟩ = some (.int .i64 y.un.stp)
  z4 : W.cell? ⟨b', k * 6 + 4, none⟩ = some (.int .i64 y.ld.bas)
  z5 : W.cell? ⟨b', k * 6 + 5, none⟩ = some (.int .i64 y.ld.stp)
set_option maxRecDepth 100000 in
set_option maxHeartbeats 1000000 in
theorem sameI_any (a a' : Option Addr) (c c' : Nat) (l : List It) (w : World) (hl : l.length ≤ 4096) (h1 : RdT w a l) (h2 : RdT w a' l) :
    Calls Tryz.prog 26 #[.slice a l.length c, .slice a' l.length c'] w fun e w' => e = .returned (.bool true) ∧ Below w.heap.size w w' := by
  go_enter Tryz.func26, Tryz.ntmps26
  go_wp2_with fail
  go_loopw [13] (fun i wx => ∃ k : Nat, k ≤ l.length ∧ i = .int .i64 (k : Int) ∧ Below w.heap.size w wx) (fun i _ => l.length - (intOf i).toNat)
  case atStart => exact ⟨0, by omega, rfl, Below.refl _ _⟩
  case round =>
    obtain ⟨k, hk, rfl, hb⟩ := hrel
    have HB : Hid (Below w.heap.size w wr) := hb
    clear hb
    by_cases hkN : k < l.length
    · have i1 : (0 : Int) ≤ (k : Int) := by omega
      have i2 : (k : Int) < (l.length : Int) := by omega
      obtain ⟨y, hy⟩ : ∃ y, l.getD k ⟨0, 0, zK, zK⟩ = y := ⟨_, rfl⟩
      obtain ⟨b, hal, x0, x1, x2, x3, x4, x5⟩ := (h1.later HB.out).cells hkN hy
      obtain ⟨b', hal', z0, z1, z2, z3, z4, z5⟩ := (h2.later HB.out).cells hkN hy
      subst hal hal'
      clear hy
      go_upto_region 6 with (fail)
      have hS0 : IS wr.drew b b' k y := ⟨x0, x1, x2, x3, x4, x5, z0, z1, z2, z3, z4, z5⟩
      clear x0 x1 x2 x3 x4 x5 z0 z1 z2 z3 z4 z5
      refine wp_region_held_drew (S := fun W => IS W b b' k y) (by kernel_rfl) hS0 (fun hHeld => ?_)
      refine wpAnyH_take (i := 0) (oi := { dst := some 16, op := Op.move (Operand.tmp 0), type := _, pos := _, after := _, guard := none }) (v := .slice (some ⟨b, 0, none⟩) l.length c) rfl (by kernel_rfl) (by kernel_rfl) (by kernel_rfl) (fun _ _ _ h => h) (Or.inl ⟨by rfl, fun w hSw => by (try dsimp only at hSw); go_simp⟩) (by assumption) ?_
      simp only [Act.put, List.setIfInBounds_toArray, List.set_cons_zero, List.set_cons_succ]
      refine wpAnyH_take (i := 1) (oi := { dst := some 17, op := Op.move (Operand.tmp 5), type := _, pos := _, after := _, guard := none }) (v := .int .i64 (k : Int)) rfl (by kernel_rfl) (by kernel_rfl) (by kernel_rfl) (fun _ _ _ h => h) (Or.inl ⟨by rfl, fun w hSw => by (try dsimp only at hSw); go_simp⟩) (by assumption) ?_
      simp only [Act.put, List.setIfInBounds_toArray, List.set_cons_zero, List.set_cons_succ]
      refine wpAnyH_take (i := 2) (oi := { dst := some 18, op := Op.indexAddr 43 (Operand.tmp 16) (Operand.tmp 17), type := _, pos := _, after := _, guard := none }) (v := .pointer (some ⟨b, k * 6, none⟩)) rfl (by kernel_rfl) (by kernel_rfl) (by kernel_rfl) (fun _ _ _ h => h) (Or.inl ⟨by rfl, fun w hSw => by (try dsimp only at hSw); go_simp⟩) (by assumption) ?_
      simp only [Act.put, List.setIfInBounds_toArray, List.set_cons_zero, List.set_cons_succ]
      refine wpAnyH_take (i := 3) (oi := { dst := some 19, op := Op.load 98 (Operand.tmp 18), type := _, pos := _, after := _, guard := none }) (v := .agg (icv y)) rfl (by kernel_rfl) (by kernel_rfl) (by kernel_rfl) (fun _ _ _ h => h) (Or.inl ⟨by rfl, fun w hSw => by obtain ⟨x0, x1, x2, x3, x4, x5, _⟩ := hSw; unfold icv; go_simp⟩) (by assumption) ?_
      simp only [Act.put, List.setIfInBounds_toArray, List.set_cons_zero, List.set_cons_succ]
      refine wpAnyH_take (i := 4) (oi := { dst := some 20, op := Op.move (Operand.tmp 1), type := _, pos := _, after := _, guard := none }) (v := .slice (some ⟨b', 0, none⟩) l.length c') rfl (by kernel_rfl) (by kernel_rfl) (by kernel_rfl) (fun _ _ _ h => h) (Or.inl ⟨by rfl, fun w hSw => by (try dsimp only at hSw); go_simp⟩) (by assumption) ?_
      simp only [Act.put, List.setIfInBounds_toArray, List.set_cons_zero, List.set_cons_succ]
      refine wpAnyH_take (i := 5) (oi := { dst := some 21, op := Op.move (Operand.tmp 5), type := _, pos := _, after := _, guard := none }) (v := .int .i64 (k : Int)) rfl (by kernel_rfl) (by kernel_rfl) (by kernel_rfl) (fun _ _ _ h => h) (Or.inl ⟨by rfl, fun w hSw => by (try dsimp only at hSw); go_simp⟩) (by assumption) ?_
      simp only [Act.put, List.setIfInBounds_toArray, List.set_cons_zero, List.set_cons_succ]
      refine wpAnyH_take (i := 6) (oi := { dst := some 22, op := Op.indexAddr 43 (Operand.tmp 20) (Operand.tmp 21), type := _, pos := _, after := _, guard := none }) (v := .pointer (some ⟨b', k * 6, none⟩)) rfl (by kernel_rfl) (by kernel_rfl) (by kernel_rfl) (fun _ _ _ h => h) (Or.inl ⟨by rfl, fun w hSw => by (try dsimp only at hSw); go_simp⟩) (by assumption) ?_
      simp only [Act.put, List.setIfInBounds_toArray, List.set_cons_zero, List.set_cons_succ]
      refine wpAnyH_take (i := 7) (oi := { dst := some 23, op := Op.load 98 (Operand.tmp 22), type := _, pos := _, after := _, guard := none }) (v := .agg (icv y)) rfl (by kernel_rfl) (by kernel_rfl) (by kernel_rfl) (fun _ _ _ h => h) (Or.inl ⟨by rfl, fun w hSw => by obtain ⟨_, _, _, _, _, _, z0, z1, z2, z3, z4, z5⟩ := hSw; unfold icv; go_simp⟩) (by assumption) ?_
      simp only [Act.put, List.setIfInBounds_toArray, List.set_cons_zero, List.set_cons_succ]
      refine wpAnyH_take (i := 8) (oi := { dst := some 24, op := Op.binOp BinOp.neq 98 (Operand.tmp 19) (Operand.tmp 23) 98, type := _, pos := _, after := _, guard := none }) (v := .bool false) rfl (by kernel_rfl) (by kernel_rfl) (by kernel_rfl) (fun _ _ _ h => h) (Or.inl ⟨by rfl, fun w hSw => neIt_exec (z := y) rfl rfl rfl⟩) (by assumption) ?_
      simp only [Act.put, List.setIfInBounds_toArray, List.set_cons_zero, List.set_cons_succ]
      refine wpAnyH_done (by kernel_rfl) ?_ _
      go_wp2_with fail
      go_roundw
      case rel => exact ⟨k + 1, by omega, by go_num, HB.out.trans ((drew_below wr).mono HB.out.size)⟩
      case measure => simp [intOf]; omega
    · obtain rfl : k = l.length := by omega
      have hdk : decide ((l.length : Int) < (l.length : Int)) = false := by simp
      go_wp2_with fail
      go_ret
      exact ⟨rfl, HB.out⟩
end Go.Proofs.YteocfmimgoocnaaGreatDoor
/- Contracts: the document's Same; Cost; what a step answers, in boxes. -/
namespace Go.Proofs.YteocfmimgoocnaaGreatDoor
open Go.RowKit Go.Maps Go.Great
open Rt (Ky zK kcs)
open Rs (En zE rcs tkn RdI RdS ps evl Tb)
set_option linter.unusedVariables false
set_option linter.unusedSimpArgs false

theorem RkAt.later {w w' : World} {B : Nat} {cs : Array Value} (h : RkAt w B cs) (hb : Below w.heap.size w w') : RkAt w' B cs := (hb.block B (Array.getElem?_eq_some_iff.1 h).1).trans h
set_option maxRecDepth 100000 in
set_option maxHeartbeats 1000000 in
theorem same_any (p : Int) (a1 a2 a3 b1 b2 b3 : Option Addr) (c1 c2 c3 d1 d2 d3 : Nat) (ll lj : List (Int × Int)) (li : List It) (w : World) (l1 : ll.length ≤ 4096) (l2 : lj.length ≤ 4096) (l3 : li.length ≤ 4096)
    (r1 : RdS w a1 ll) (r2 : RdS w a2 lj) (r3 : RdT w a3 li) (s1 : RdS w b1 ll) (s2 : RdS w b2 lj) (s3 : RdT w b3 li) :
    Calls Tryz.prog 13 #[.agg #[.int .i64 p, .slice a1 ll.length c1, .slice a2 lj.length c2, .slice a3 li.length c3], .agg #[.int .i64 p, .slice b1 ll.length d1, .slice b2 lj.length d2, .slice b3 li.length d3] ] w fun e w' => e = .returned (.bool true) ∧ Below w.heap.size w w' := by
  have h1 : RkAt ((w.alloc (.cells #[.int .i64 p, .slice a1 ll.length c1, .slice a2 lj.length c2, .slice a3 li.length c3] 45)).alloc (.cells #[.int .i64 p, .slice b1 ll.length d1, .slice b2 lj.length d2, .slice b3 li.length d3] 45)) w.heap.size #[.int .i64 p, .slice a1 ll.length c1, .slice a2 lj.length c2, .slice a3 li.length c3] :=
    RkAt.later (heap_alloc_last w _) (below_alloc _ _)
  have h2 : RkAt ((w.alloc (.cells #[.int .i64 p, .slice a1 ll.length c1, .slice a2 lj.length c2, .slice a3 li.length c3] 45)).alloc (.cells #[.int .i64 p, .slice b1 ll.length d1, .slice b2 lj.length d2, .slice b3 li.length d3] 45)) (w.heap.size + 1) #[.int .i64 p, .slice b1 ll.length d1, .slice b2 lj.length d2, .slice b3 li.length d3] := by
    have h := heap_alloc_last (w.alloc (.cells #[.int .i64 p, .slice a1 ll.length c1, .slice a2 lj.length c2, .slice a3 li.length c3] 45)) (.cells #[.int .i64 p, .slice b1 ll.length d1, .slice b2 lj.length d2, .slice b3 li.length d3] 45)
    rw [World.size_alloc] at h
    exact h
  have hB1 : Below w.heap.size w ((w.alloc (.cells #[.int .i64 p, .slice a1 ll.length c1, .slice a2 lj.length c2, .slice a3 li.length c3] 45)).alloc (.cells #[.int .i64 p, .slice b1 ll.length d1, .slice b2 lj.length d2, .slice b3 li.length d3] 45)) := ((Below.refl _ w).alloc (Nat.le_refl _) _).alloc (by simp) _
  go_enter Tryz.func13, Tryz.ntmps13
  go_upto_region 1 with (fail)
  generalize (w.alloc (.cells #[.int .i64 p, .slice a1 ll.length c1, .slice a2 lj.length c2, .slice a3 li.length c3] 45)).alloc (.cells #[.int .i64 p, .slice b1 ll.length d1, .slice b2 lj.length d2, .slice b3 li.length d3] 45) = w1 at *
  obtain ⟨D, hD⟩ : ∃ D, w.heap.size + 1 = D := ⟨_, rfl⟩
  rw [hD] at h2 ⊢
  obtain ⟨C, hC⟩ : ∃ D, w.heap.size = D := ⟨_, rfl⟩
  rw [hC] at h1
  rw [hC]
  clear hD hC
  obtain ⟨x0, x1, x2, x3⟩ := h1.cells
  obtain ⟨y0, y1, y2, y3⟩ := h2.cells
  have m1 := Rs.sameS_any a1 b1 c1 d1 ll w1 (by omega) (r1.later hB1) (s1.later hB1)
  go_wp2_with fail
  refine m1.mono ?_
  rintro r w2 ⟨rfl, hb2⟩
  have h3 := h1.later hb2
  have h4 := h2.later hb2
  have hB2 := hB1.trans (hb2.mono hB1.size)
  clear m1 h1 h2 x0 x1 x2 x3 y0 y1 y2 y3 hb2 hB1
  obtain ⟨x0, x1, x2, x3⟩ := h3.cells
  obtain ⟨y0, y1, y2, y3⟩ := h4.cells
  have m1 := Rs.sameS_any a2 b2 c2 d2 lj w2 (by omega) (r2.later hB2) (s2.later hB2)
  go_wp2_with fail
  refine m1.mono ?_
  rintro r w3 ⟨rfl, hb3⟩
  have h5 := h3.later hb3
  have h6 := h4.later hb3
  have hB3 := hB2.trans (hb3.mono hB2.size)
  clear m1 h3 h4 x0 x1 x2 x3 y0 y1 y2 y3 hb3 hB2
  obtain ⟨x0, x1, x2, x3⟩ := h5.cells
  obtain ⟨y0, y1, y2, y3⟩ := h6.cells
  have m1 := sameI_any a3 b3 c3 d3 li w3 l3 (r3.later hB3) (s3.later hB3)
  go_wp2_with fail
  refine m1.mono ?_
  rintro r w4 ⟨rfl, hb4⟩
  have hB4 := hB3.trans (hb4.mono hB3.size)
  clear m1 h5 h6 x0 x1 x2 x3 y0 y1 y2 y3 hb4 hB3
  go_wp2_with fail
  go_ret
  exact ⟨rfl, hB4⟩
/- Lengths of what a step answers. -/
theorem pnL_len (t : Tr) (L J : List Int) : (pnL t L J).length ≤ 64 := by
  unfold pnL
  split
  · rename_i h; rw [Rs.evl_length]; exact (plE_stp h).fit.lenL
  · simp
theorem jns_len (t : Tr) (L J : List Int) : (jns t L J).length = J.length := by unfold jns; rw [Rs.adl_length]
theorem pnJ_len (t : Tr) (L J : List Int) : (pnJ t L J).length ≤ 64 := by
  unfold pnJ
  split
  · rename_i h; rw [jns_len]; exact (plE_stp h).fit.lenJ
  · simp
theorem pnI_len (t : Tr) (L J : List Int) : (pnI t L J).length ≤ 12 * ((pnL t L J).length + (pnJ t L J).length) := by
  unfold pnI pnL pnJ
  split
  · exact its_len _ _ _
  · simp
theorem pnI_short (t : Tr) (L J : List Int) : (pnI t L J).length ≤ 4096 := by
  have h1 := pnI_len t L J
  have h2 := pnL_len t L J
  have h3 := pnJ_len t L J
  omega
end Go.Proofs.YteocfmimgoocnaaGreatDoor
