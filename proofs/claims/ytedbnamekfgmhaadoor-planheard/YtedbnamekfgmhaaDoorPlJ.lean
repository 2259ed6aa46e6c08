/- Contracts: lives; the document's SameItems, Same; Cost. -/
import Derived.Test.YtedbnamekfgmhaaDoorPlI
namespace Go.Proofs.YtedbnamekfgmhaaDoor
open Go.RowKit Go.Maps Go.Great
open Rt (Ky zK kcs)
open Rs (En zE rcs tkn RdI RdS ps evl Tb)
set_option linter.unusedVariables false
set_option linter.unusedSimpArgs false

def icv (x : It) : Array Value := #[.int .i64 x.nd, .int .i64 x.fm, .int .i64 x.un.bas, .int .i64 x.un.stp, .int .i64 x.ld.bas, .int .i64 x.ld.stp]
set_option maxRecDepth 100000 in
theorem run_eqIt (x : It) (w : World) : (Op.equalIn 10000 70 (.agg (icv x)) (.agg (icv x))).run Tryd.prog w = .ok true w := by
  rw [run_equalIn_agg w 9999 70 _ _ (by kernel_rfl) (by kernel_rfl)]
  unfold icv
  simp [go_sem, part]
theorem eqIt_exec {w : World} {z : It} {o : Oper} {a : Act} {x y : Operand} (ho : o.op = .binOp .eql 70 x y 70) (hx : a.eval x = .agg (icv z)) (hy : a.eval y = .agg (icv z)) : (execOp a.eval o).run Tryd.prog w = .ok (.value (.bool true)) w := by
  have h1 := run_eqGuard_agg (P := Tryd.prog) w .eql 70 x y (icv z) (icv z) Tryd.eqGuardType70
  have h2 := run_eql_struct (P := Tryd.prog) w 70 (icv z) (icv z)
  rw [run_eqIt] at h2
  simp [execOp, ho, hx, hy, h1, h2, Sem.run_bind, Result.andThen]
theorem neIt_exec {w : World} {z : It} {o : Oper} {a : Act} {x y : Operand} (ho : o.op = .binOp .neq 70 x y 70) (hx : a.eval x = .agg (icv z)) (hy : a.eval y = .agg (icv z)) : (execOp a.eval o).run Tryd.prog w = .ok (.value (.bool false)) w := by
  have h1 := run_eqGuard_agg (P := Tryd.prog) w .neq 70 x y (icv z) (icv z) Tryd.eqGuardType70
  have h2 := run_neq_struct (P := Tryd.prog) w 70 (icv z) (icv z)
  rw [run_eqIt] at h2
  simp [execOp, ho, hx, hy, h1, h2, Sem.run_bind, Result.andThen]
theorem neTr {ops : Array Oper} {rest : List Oper} {o : Oper} {a : Act} {w : World} {Q : Exit → Act → World → Prop} {t : Tr} {ct : Array Value} (hct : tcs t = ct) (x y : Operand) (ho : o.op = .binOp .neq 31 x y 31)
    (hx : a.eval x = .agg ct) (hy : a.eval y = .agg ct) (hw : Region.wanted o (yielded ops a.tmps) = true) (k : wpList Tryd.prog ops Q rest (a.put o.dst (.bool false)) w) : wpList Tryd.prog ops Q (o :: rest) a w := by
  refine rd_guard hw ?_ k
  subst hct
  have h1 := run_eqGuard_agg (P := Tryd.prog) w .neq 31 x y (tcs t) (tcs t) Tryd.eqGuardType31
  have h2 := run_neq_struct (P := Tryd.prog) w 31 (tcs t) (tcs t)
  rw [run_eqTr, eqT_refl] at h2
  simp [execOp, ho, hx, hy, h1, h2, Sem.run_bind, Result.andThen]
theorem RkAt.cells {w : World} {B : Nat} {p : Int} {v1 v2 v3 : Value} (h : RkAt w B #[.int .i64 p, v1, v2, v3]) : w.cell? ⟨B, 0, none⟩ = some (.int .i64 p) ∧ w.cell? ⟨B, 1, none⟩ = some v1 ∧ w.cell? ⟨B, 2, none⟩ = some v2 ∧ w.cell? ⟨B, 3, none⟩ = some v3 :=
  ⟨cell_of_row w B 0 _ _ _ h, cell_of_row w B 1 _ _ _ h, cell_of_row w B 2 _ _ _ h, cell_of_row w B 3 _ _ _ h⟩
set_option maxRecDepth 100000 in
set_option maxHeartbeats 1000000 in
theorem lives_any (w : World) (hTb : Tb w) : Calls Tryd.prog 9 #[] w fun e w' => e = .returned (.bool true) ∧ Below w.heap.size w w' := by
  have h1 := three_any w
  obtain ⟨c3, hc3⟩ : ∃ c, tcs t3 = c := ⟨_, rfl⟩
  rw [hc3] at h1
  go_enter Tryd.func9, Tryd.ntmps9
  go_wp2_with fail
  refine h1.mono ?_
  rintro r w2 ⟨rfl, hb2⟩
  have hB3 := hb2.alloc hb2.size (.cells #[.int .i64 1] 3)
  have h2 := next_any t3 (some ⟨w2.heap.size, 0, none⟩) none 1 0 [1] [] (w2.alloc (.cells #[.int .i64 1] 3)) (hTb.later hB3) (by simp) (by simp) (rd_one w2) (Rs.RdI.nil _ _)
  rw [hc3] at h2
  simp only [List.length_nil, List.length_cons, Nat.zero_add, Nat.reduceAdd] at h2
  clear h1 hc3 hb2
  go_wp2_with fail
  refine h2.mono ?_
  rintro r w4 ⟨⟨vl, vj, vi, rfl, hNP⟩, hb4⟩
  have hB4 := hB3.trans (hb4.mono hB3.size)
  obtain ⟨a1, k1, rfl⟩ := Rs.owns_slice hNP.left
  obtain ⟨a2, k2, rfl⟩ := Rs.owns_slice hNP.join
  obtain ⟨a3, k3, rfl⟩ := Rs.owns_slice hNP.item
  obtain ⟨it, hit, hl3⟩ := live_at
  have hpI : pnI t3 [1] [] = ⟨5, 22, ⟨23, 1⟩, ⟨25, 0⟩⟩ :: it := by unfold pnI; rw [if_pos live_E]; exact hit
  have hln : (pnI t3 [1] []).length = 4 := by rw [hpI, List.length_cons, hl3]
  have hrd := owns_rdT hNP.item
  obtain ⟨g, hg, i0, i1, i2, i3, i4, i5⟩ := hrd.cells (i := 0) (by omega) (y := ⟨5, 22, ⟨23, 1⟩, ⟨25, 0⟩⟩) (by rw [hpI]; rfl)
  subst hg
  rw [live_E, hln]
  have hpt : pnT t3 [1] [] = nx t3 [1] [] := by unfold pnT; rw [if_pos live_E]
  rw [hpt]
  obtain ⟨n, hn⟩ : ∃ n, nx t3 [1] [] = n := ⟨_, rfl⟩
  have hne := live_n
  rw [hn] at hne
  rw [hn]
  obtain ⟨cn, hcn⟩ : ∃ c, tcs n = c := ⟨_, rfl⟩
  have HC : Hid (tcs n = cn) := hcn
  rw [hcn]
  obtain ⟨l1, hl1⟩ : ∃ l, (pnL t3 [1] []).length = l := ⟨_, rfl⟩
  obtain ⟨l2, hl2⟩ : ∃ l, (pnJ t3 [1] []).length = l := ⟨_, rfl⟩
  obtain ⟨p, hp⟩ : ∃ e, pnP t3 [1] [] = e := ⟨_, rfl⟩
  rw [hl1, hl2, hp]
  obtain ⟨t1, t2, W, hW, tT, tR, tB⟩ := two_boxes w4 n cn #[.int .i64 p, .slice a1 l1 k1, .slice a2 l2 k2, .slice (some ⟨g, 0, none⟩) 4 k3] hcn
  have hB5 := hB4.trans (tB.mono hB4.size)
  have j0 := Rs.cell_later tB i0
  have j1 := Rs.cell_later tB i1
  have j2 := Rs.cell_later tB i2
  have j3 := Rs.cell_later tB i3
  have j4 := Rs.cell_later tB i4
  have j5 := Rs.cell_later tB i5
  dsimp only [Nat.zero_mul, Nat.zero_add] at j0 j1 j2 j3 j4 j5
  clear h2 hNP hb4 hB3 hB4 hl1 hl2 hl3 hp hcn hn hpt hln hpI hit hrd i0 i1 i2 i3 i4 i5 tB
  go_upto_region 2 with (first | (refine stTc t1 HC.out rfl _ _ rfl rfl rfl ?_) | (refine stRw infoRk (cs := rkz) rkz_size t2 _ rfl (rk_one _ _ _ _ _ _ _ _ _ _) rfl _ _ rfl rfl rfl ?_))
  clear t1 t2 hW
  generalize w4.heap.size = N at *
  obtain ⟨c0, c1⟩ := tT.cells
  rw [hne.1] at c0
  rw [hne.2] at c1
  obtain ⟨r0, r1, r2, r3⟩ := tR.cells
  clear tT tR hne HC
  go_wp2_with (refine rd_guard rfl (eqIt_exec (z := ⟨5, 22, ⟨23, 1⟩, ⟨25, 0⟩⟩) rfl rfl rfl) ?_)
  go_ret
  exact ⟨rfl, hB5⟩
/- Lists of items. -/
structure IS (W : World) (b b' k : Nat) (y : It) : Prop where
  x0 : W.cell? ⟨b, k * 6, none⟩ = some (.int .i64 y.nd)
  x1 : W.cell? ⟨b, k * 6 + 1, none⟩ = some (.int .i64 y.fm)
  x2 : W.cell? ⟨b, k * 6 + 2, none⟩ = some (.int .i64 y.un.bas)
  x3 : W.cell? ⟨b, k * 6 + 3, none⟩ = some (.int .i64 y.un.stp)
  x4 : W.cell? ⟨b, k * 6 + 4, none⟩ = some (.int .i64 y.ld.bas)
  x5 : W.cell? ⟨b, k * 6 + 5, none⟩ = some (.int .i64 y.ld.stp)
  z0 : W.cell? ⟨b', k * 6, none⟩ = some (.int .i64 y.nd)
  z1 : W.cell? ⟨b', k * 6 + 1, none⟩ = some (.int .i64 y.fm)
  z2 : W.cell? ⟨b', k * 6 + 2, none⟩ = some (.int .i64 y.un.bas)
  z3 : W.cell? ⟨b', k * 6 + 3, none⟩ = some (.int .i64 y.un.stp)
  z4 : W.cell? ⟨b', k * 6 + 4, none⟩ = some (.int .i64 y.ld.bas)
  z5 : W.cell? ⟨b', k * 6 + 5, none⟩ = some (.int .i64 y.ld.stp)
set_option maxRecDepth 100000 in
set_option maxHeartbeats 1000000 in
theorem sameI_any (a a' : Option Addr) (c c' : Nat) (l : List It) (w : World) (hl : l.length ≤ 4096) (h1 : RdT w a l) (h2 : RdT w a' l) :
    Calls Tryd.prog 32 #[.slice a l.length c, .slice a' l.length c'] w fun e w' => e = .returned (.bool true) ∧ Below w.heap.size w w' := by
  go_enter Tryd.func32, Tryd.ntmps32
  go_wp2_with fail
  go_loopw [13] (fun i wx => ∃ k : Nat, k ≤ l.length ∧ i = .int .i64 (k : Int) ∧ Below w.heap.size w wx) (fun i _ => l.length - (intOf i).toNat)
  case atStart => exact ⟨0, by omega, rfl, Below.refl _ _⟩
  case round =>
    obtain ⟨k, hk, rfl, hb⟩ := hrel
    have HB : Hid (Below w.heap.size w wr) := hb
    clear hb
    by_cases hkN : k < l.length
    · have i1 : (0 : Int) ≤ (k : Int) := by omega
      have i2 : (k : Int) < (l.length : Int) := by omega
      obtain ⟨y, hy⟩ : ∃ y, l.getD k ⟨0, 0, zK, zK⟩ = y := ⟨_, rfl⟩
      obtain ⟨b, hal, x0, x1, x2, x3, x4, x5⟩ := (h1.later HB.out).cells hkN hy
      obtain ⟨b', hal', z0, z1, z2, z3, z4, z5⟩ := (h2.later HB.out).cells hkN hy
      subst hal hal'
      clear hy
      go_upto_region 6 with (fail)
      have hS0 : IS wr.drew b b' k y := ⟨x0, x1, x2, x3, x4, x5, z0, z1, z2, z3, z4, z5⟩
      clear x0 x1 x2 x3 x4 x5 z0 z1 z2 z3 z4 z5
      refine wp_region_held_drew (S := fun W => IS W b b' k y) (by kernel_rfl) hS0 (fun hHeld => ?_)
      refine wpAnyH_take (i := 0) (oi := { dst := some 16, op := Op.move (Operand.tmp 0), type := _, pos := _, after := _, guard := none }) (v := .slice (some ⟨b, 0, none⟩) l.length c) rfl (by kernel_rfl) (by kernel_rfl) (by kernel_rfl) (fun _ _ _ h => h) (Or.inl ⟨by rfl, fun w hSw => by (try dsimp only at hSw); go_simp⟩) (by assumption) ?_
      simp only [Act.put, List.setIfInBounds_toArray, List.set_cons_zero, List.set_cons_succ]
      refine wpAnyH_take (i := 1) (oi := { dst := some 17, op := Op.move (Operand.tmp 5), type := _, pos := _, after := _, guard := none }) (v := .int .i64 (k : Int)) rfl (by kernel_rfl) (by kernel_rfl) (by kernel_rfl) (fun _ _ _ h => h) (Or.inl ⟨by rfl, fun w hSw => by (try dsimp only at hSw); go_simp⟩) (by assumption) ?_
      simp only [Act.put, List.setIfInBounds_toArray, List.set_cons_zero, List.set_cons_succ]
      refine wpAnyH_take (i := 2) (oi := { dst := some 18, op := Op.indexAddr 37 (Operand.tmp 16) (Operand.tmp 17), type := _, pos := _, after := _, guard := none }) (v := .pointer (some ⟨b, k * 6, none⟩)) rfl (by kernel_rfl) (by kernel_rfl) (by kernel_rfl) (fun _ _ _ h => h) (Or.inl ⟨by rfl, fun w hSw => by (try dsimp only at hSw); go_simp⟩) (by assumption) ?_
      simp only [Act.put, List.setIfInBounds_toArray, List.set_cons_zero, List.set_cons_succ]
      refine wpAnyH_take (i := 3) (oi := { dst := some 19, op := Op.load 70 (Operand.tmp 18), type := _, pos := _, after := _, guard := none }) (v := .agg (icv y)) rfl (by kernel_rfl) (by kernel_rfl) (by kernel_rfl) (fun _ _ _ h => h) (Or.inl ⟨by rfl, fun w hSw => by obtain ⟨x0, x1, x2, x3, x4, x5, _⟩ := hSw; unfold icv; go_simp⟩) (by assumption) ?_
      simp only [Act.put, List.setIfInBounds_toArray, List.set_cons_zero, List.set_cons_succ]
      refine wpAnyH_take (i := 4) (oi := { dst := some 20, op := Op.move (Operand.tmp 1), type := _, pos := _, after := _, guard := none }) (v := .slice (some ⟨b', 0, none⟩) l.length c') rfl (by kernel_rfl) (by kernel_rfl) (by kernel_rfl) (fun _ _ _ h => h) (Or.inl ⟨by rfl, fun w hSw => by (try dsimp only at hSw); go_simp⟩) (by assumption) ?_
      simp only [Act.put, List.setIfInBounds_toArray, List.set_cons_zero, List.set_cons_succ]
      refine wpAnyH_take (i := 5) (oi := { dst := some 21, op := Op.move (Operand.tmp 5), type := _, pos := _, after := _, guard := none }) (v := .int .i64 (k : Int)) rfl (by kernel_rfl) (by kernel_rfl) (by kernel_rfl) (fun _ _ _ h => h) (Or.inl ⟨by rfl, fun w hSw => by (try dsimp only at hSw); go_simp⟩) (by assumption) ?_
      simp only [Act.put, List.setIfInBounds_toArray, List.set_cons_zero, List.set_cons_succ]
      refine wpAnyH_take (i := 6) (oi := { dst := some 22, op := Op.indexAddr 37 (Operand.tmp 20) (Operand.tmp 21), type := _, pos := _, after := _, guard := none }) (v := .pointer (some ⟨b', k * 6, none⟩)) rfl (by kernel_rfl) (by kernel_rfl) (by kernel_rfl) (fun _ _ _ h => h) (Or.inl ⟨by rfl, fun w hSw => by (try dsimp only at hSw); go_simp⟩) (by assumption) ?_
      simp only [Act.put, List.setIfInBounds_toArray, List.set_cons_zero, List.set_cons_succ]
      refine wpAnyH_take (i := 7) (oi := { dst := some 23, op := Op.load 70 (Operand.tmp 22), type := _, pos := _, after := _, guard := none }) (v := .agg (icv y)) rfl (by kernel_rfl) (by kernel_rfl) (by kernel_rfl) (fun _ _ _ h => h) (Or.inl ⟨by rfl, fun w hSw => by obtain ⟨_, _, _, _, _, _, z0, z1, z2, z3, z4, z5⟩ := hSw; unfold icv; go_simp⟩) (by assumption) ?_
      simp only [Act.put, List.setIfInBounds_toArray, List.set_cons_zero, List.set_cons_succ]
      refine wpAnyH_take (i := 8) (oi := { dst := some 24, op := Op.binOp BinOp.neq 70 (Operand.tmp 19) (Operand.tmp 23) 70, type := _, pos := _, after := _, guard := none }) (v := .bool false) rfl (by kernel_rfl) (by kernel_rfl) (by kernel_rfl) (fun _ _ _ h => h) (Or.inl ⟨by rfl, fun w hSw => neIt_exec (z := y) rfl rfl rfl⟩) (by assumption) ?_
      simp only [Act.put, List.setIfInBounds_toArray, List.set_cons_zero, List.set_cons_succ]
      refine wpAnyH_done (by kernel_rfl) ?_ _
      go_wp2_with fail
      go_roundw
      case rel => exact ⟨k + 1, by omega, by go_num, HB.out.trans ((drew_below wr).mono HB.out.size)⟩
      case measure => simp [intOf]; omega
    · obtain rfl : k = l.length := by omega
      have hdk : decide ((l.length : Int) < (l.length : Int)) = false := by simp
      go_wp2_with fail
      go_ret
      exact ⟨rfl, HB.out⟩
end Go.Proofs.YtedbnamekfgmhaaDoor
