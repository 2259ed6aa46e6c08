/- MbF, MbK, joined. -/
import Derived.Test.YtdghibimelhgjaaMbJ1
import Derived.Test.YtdghibimelhgjaaPlJ6
import Derived.Test.YtdghibimelhgjaaWiJ2
import Derived.Test.YtdghibimelhgjaaMbJ2
import Derived.LoopN
/- Contracts: arrive. -/
namespace Go.Proofs.Ytdghibimelhgjaa.Mb
open Go.RowKit Go.Maps
open Rt (Ky zK gd pcs KyAt)
open Wi (gR gE gW gS gI gB gK ldM stM rd_guard ra_of th_of ra_later)
set_option linter.unusedVariables false
set_option linter.unusedSimpArgs false

def PAt (w : World) (B : Nat) (a b c : Ky) : Prop := w.heap[B]? = some (.cells (pal a b c).toArray 47 (0, 0))
theorem PAt.all {w : World} {B : Nat} {a b c : Ky} (h : PAt w B a b c) : w.rangeAt B 0 (pal a b c) := ra_of h 0 (pal a b c) rfl
theorem PAt.later {w w' : World} {B : Nat} {a b c : Ky} (h : PAt w B a b c) (hb : Below w.heap.size w w') : PAt w' B a b c := row_later h hb
structure SA (w W : World) (B L P K : Nat) (m n : Mb) (l a b c : Ky) : Prop where
  mb : MA W B m
  ky : KyAt W L l
  pa : PAt W P a b c
  re : MA W K n
  bel : Below w.heap.size w W
  gb : w.heap.size ≤ B
  ge : w.heap.size ≤ K
  ne : B ≠ K
theorem SA.later {w W W' : World} {B L P K : Nat} {m n : Mb} {l a b c : Ky} (h : SA w W B L P K m n l a b c) (hb : Below W.heap.size W W') : SA w W' B L P K m n l a b c :=
  ⟨h.mb.later hb, h.ky.later hb, h.pa.later hb, h.re.later hb, h.bel.trans (hb.mono h.bel.size), h.gb, h.ge, h.ne⟩
theorem SA.new (w : World) (m n : Mb) (l a b c : Ky) : SA w ((((w.alloc (.cells (mba m) 49)).alloc (.cells #[.int .i64 l.bas, .int .i64 l.stp] 23)).alloc (.cells (pal a b c).toArray 47)).alloc (.cells (mba n) 49)) w.heap.size (w.heap.size + 1) (w.heap.size + 2) (w.heap.size + 3) m n l a b c := by
  have h1 := MA.new w m
  have hb1 := below_alloc w (.cells (mba m) 49)
  have e1 : (w.alloc (.cells (mba m) 49)).heap.size = w.heap.size + 1 := by rw [World.size_alloc]
  generalize w.alloc (.cells (mba m) 49) = w1 at *
  have h2 := KyAt.new w1 l
  have hb2 := below_alloc w1 (.cells #[.int .i64 l.bas, .int .i64 l.stp] 23)
  have e2 : (w1.alloc (.cells #[.int .i64 l.bas, .int .i64 l.stp] 23)).heap.size = w.heap.size + 2 := by rw [World.size_alloc, e1]
  rw [e1] at h2
  generalize w1.alloc (.cells #[.int .i64 l.bas, .int .i64 l.stp] 23) = w2 at *
  have h3 : PAt (w2.alloc (.cells (pal a b c).toArray 47)) w2.heap.size a b c := heap_alloc_last w2 _
  have hb3 := below_alloc w2 (.cells (pal a b c).toArray 47)
  have e3 : (w2.alloc (.cells (pal a b c).toArray 47)).heap.size = w.heap.size + 3 := by rw [World.size_alloc, e2]
  rw [e2] at h3
  generalize w2.alloc (.cells (pal a b c).toArray 47) = w3 at *
  have h4 := MA.new w3 n
  have hb4 := below_alloc w3 (.cells (mba n) 49)
  rw [e3] at h4
  have b34 := Wi.Below.join hb3 hb4
  have b24 := Wi.Below.join hb2 b34
  have b14 := Wi.Below.join hb1 b24
  exact ⟨h1.later b24, h2.later b34, h3.later hb4, h4, b14, by omega, by omega, by omega⟩
structure SR (w W : World) (B L P K : Nat) (l a b c : Ky) : Prop where
  ky : KyAt W L l
  pa : PAt W P a b c
  re : MA W K zMb
  bel : Below w.heap.size w W
  gb : w.heap.size ≤ B
  ne : B ≠ K
  nl : B ≠ L
  np : B ≠ P
theorem SR.set {w W : World} {B L P K : Nat} {l a b c : Ky} (h : SR w W B L P K l a b c) (k : Nat) (v : Value) : SR w (W.setCell ⟨B, k, none⟩ v) B L P K l a b c :=
  ⟨(Rt.other_setCell (Ne.symm h.nl) _ _).trans h.ky, (Rt.other_setCell (Ne.symm h.np) _ _).trans h.pa, (Rt.other_setCell (Ne.symm h.ne) _ _).trans h.re, h.bel.setCell (p := ⟨B, k, none⟩) h.gb v, h.gb, h.ne, h.nl, h.np⟩
theorem arr_row (m : Mb) (e : Int) (l a b c : Ky) : ((((((((((mba m).setIfInBounds 2 (.int .i64 e)).setIfInBounds 3 (.int .i64 l.bas)).setIfInBounds 4 (.int .i64 l.stp)).setIfInBounds 5 (.int .i64 a.bas)).setIfInBounds 6 (.int .i64 a.stp)).setIfInBounds 7 (.int .i64 b.bas)).setIfInBounds 8 (.int .i64 b.stp)).setIfInBounds 9 (.int .i64 c.bas)).setIfInBounds 10 (.int .i64 c.stp)).setIfInBounds 11 (.bool true) = mba ⟨m.who, m.slt, e, l, a, b, c, true, m.out, m.bh⟩ := by kernel_rfl
set_option maxRecDepth 100000 in
set_option maxHeartbeats 2000000 in
theorem arrive_any (m : Mb) (e : Int) (l a b c : Ky) (w : World) : Calls Try.prog 47 #[.agg (mba m), .int .i64 e, .agg #[.int .i64 l.bas, .int .i64 l.stp], .agg (pal a b c).toArray] w fun r w' => r = .returned (.agg (mba (arr m e l a b c))) ∧ Below w.heap.size w w' := by
  have hS := SA.new w m zMb l a b c
  obtain ⟨cm, hcm⟩ : ∃ c, mba m = c := ⟨_, rfl⟩
  have HC : Hid (mba m = cm) := hcm
  rw [hcm] at hS
  rw [hcm]
  clear hcm
  unfold pal at hS
  go_enter Try.func47, Try.ntmps47
  unfold pal
  go_upto_region 1 with (fail)
  rw [zMb_eq]
  generalize (((w.alloc (.cells cm 49)).alloc (.cells #[.int .i64 l.bas, .int .i64 l.stp] 23)).alloc (.cells #[.int .i64 a.bas, .int .i64 a.stp, .int .i64 b.bas, .int .i64 b.stp, .int .i64 c.bas, .int .i64 c.stp] 47)).alloc (.cells (mba zMb) 49) = w1 at *
  obtain ⟨K, hK⟩ : ∃ K, w.heap.size + 3 = K := ⟨_, rfl⟩
  obtain ⟨P, hPp⟩ : ∃ K, w.heap.size + 2 = K := ⟨_, rfl⟩
  obtain ⟨L, hL⟩ : ∃ K, w.heap.size + 1 = K := ⟨_, rfl⟩
  obtain ⟨B, hB⟩ : ∃ B, w.heap.size = B := ⟨_, rfl⟩
  rw [hK, hPp, hL, hB] at hS ⊢
  clear hK hB hPp hL
  have hM : MA w1.drew B m := hS.mb.later (drew_below _)
  have hR0 : SR w w1.drew B L P K l a b c := ⟨(hS.later (drew_below _)).ky, (hS.later (drew_below _)).pa, (hS.later (drew_below _)).re, (hS.later (drew_below _)).bel, hS.gb, hS.ne, block_ne hS.mb hS.ky (by decide), block_ne hS.mb hS.pa (by decide)⟩
  have HGE : Hid (w.heap.size ≤ K) := hS.ge
  have HM : Hid (MA w1.drew B m) := hM
  have z2 := hM.ep
  obtain ⟨z3, z4⟩ := hM.leaf
  obtain ⟨⟨z5, z6⟩, ⟨z7, z8⟩, z9, z10⟩ := hM.key
  have z11 := hM.has
  have y2 := hM.fr 2
  have y3 := hM.fr 3
  have y4 := hM.fr 4
  have y5 := hM.fr 5
  have y6 := hM.fr 6
  have y7 := hM.fr 7
  have y8 := hM.fr 8
  have y9 := hM.fr 9
  have y10 := hM.fr 10
  have y11 := hM.fr 11
  clear hS hM
  refine wp_region_held_drew (S := fun W => SR w W B L P K l a b c) (by kernel_rfl) hR0 (fun hHeld => ?_)
  clear hR0
  generalize w1.drew = wd at *
  refine wpAnyH_take (i := 0) (oi := { dst := some 9, op := Op.move (Operand.tmp 1), type := _, pos := _, after := _, guard := none }) (v := .int .i64 e) rfl (by kernel_rfl) (by kernel_rfl) (by kernel_rfl) (fun _ _ _ h => h) (Or.inl ⟨by rfl, fun w hSw => by (try dsimp only at hSw); go_simp⟩) (by assumption) ?_
  simp only [Act.put, List.setIfInBounds_toArray, List.set_cons_zero, List.set_cons_succ]
  refine wpAnyH_take (i := 1) (oi := { dst := some 10, op := Op.load 23 (Operand.tmp 6), type := _, pos := _, after := _, guard := none }) (v := .agg #[.int .i64 l.bas, .int .i64 l.stp]) rfl (by kernel_rfl) (by kernel_rfl) (by kernel_rfl) (fun _ _ _ h => h) (Or.inl ⟨by rfl, fun w hSw => by obtain ⟨c0, c1⟩ := hSw.ky.cells; clear hSw z2 z3 z4 z5 z6 z7 z8 z9 z10 z11 y2 y3 y4 y5 y6 y7 y8 y9 y10 y11; go_simp⟩) (by assumption) ?_
  simp only [Act.put, List.setIfInBounds_toArray, List.set_cons_zero, List.set_cons_succ]
  refine wpAnyH_take (i := 2) (oi := { dst := some 11, op := Op.load 47 (Operand.tmp 7), type := _, pos := _, after := _, guard := none }) (v := .agg #[.int .i64 a.bas, .int .i64 a.stp, .int .i64 b.bas, .int .i64 b.stp, .int .i64 c.bas, .int .i64 c.stp]) rfl (by kernel_rfl) (by kernel_rfl) (by kernel_rfl) (fun _ _ _ h => h) (Or.inl ⟨by rfl, fun w hSw => Wi.ld_ex hSw.pa.all Try.underlying47 rfl szPath rfl rfl⟩) (by assumption) ?_
  simp only [Act.put, List.setIfInBounds_toArray, List.set_cons_zero, List.set_cons_succ]
  refine wpAnyH_take (i := 3) (oi := { dst := some 12, op := Op.fieldAddr 49 (Operand.tmp 4) 2, type := _, pos := _, after := _, guard := none }) (v := .pointer (some ⟨B, 2, none⟩)) rfl (by kernel_rfl) (by kernel_rfl) (by kernel_rfl) (fun _ _ _ h => h) (Or.inl ⟨by rfl, fun w hSw => by (try dsimp only at hSw); go_simp⟩) (by assumption) ?_
  simp only [Act.put, List.setIfInBounds_toArray, List.set_cons_zero, List.set_cons_succ]
  refine wpAnyH_ready (rs := [4]) (by kernel_rfl) (by simp) ?_
  refine AllReadyH.cons rfl (fun K hK => ?_) AllReadyH.nil
  go_simp
  refine hK.out _ _ (hHeld.set 2 _) (fun hHeld2 => ?_)
  clear hHeld
  clear hK K
  try simp only [Act.put, List.setIfInBounds_toArray, List.set_cons_zero, List.set_cons_succ]
  refine wpAnyH_take (i := 5) (oi := { dst := some 13, op := Op.fieldAddr 49 (Operand.tmp 4) 3, type := _, pos := _, after := _, guard := none }) (v := .pointer (some ⟨B, 3, none⟩)) rfl (by kernel_rfl) (by kernel_rfl) (by kernel_rfl) (fun _ _ _ h => h) (Or.inl ⟨by rfl, fun w hSw => by (try dsimp only at hSw); go_simp⟩) (by assumption) ?_
  simp only [Act.put, List.setIfInBounds_toArray, List.set_cons_zero, List.set_cons_succ]
  refine wpAnyH_ready (rs := [6]) (by kernel_rfl) (by simp) ?_
  refine AllReadyH.cons rfl (fun K hK => ?_) AllReadyH.nil
  go_simp
  refine hK.out _ _ ((hHeld2.set 3 _).set 4 _) (fun hHeld3 => ?_)
  clear hHeld2
  clear hK K
  try simp only [Act.put, List.setIfInBounds_toArray, List.set_cons_zero, List.set_cons_succ]
  refine wpAnyH_take (i := 7) (oi := { dst := some 14, op := Op.fieldAddr 49 (Operand.tmp 4) 4, type := _, pos := _, after := _, guard := none }) (v := .pointer (some ⟨B, 5, none⟩)) rfl (by kernel_rfl) (by kernel_rfl) (by kernel_rfl) (fun _ _ _ h => h) (Or.inl ⟨by rfl, fun w hSw => by (try dsimp only at hSw); go_simp⟩) (by assumption) ?_
  simp only [Act.put, List.setIfInBounds_toArray, List.set_cons_zero, List.set_cons_succ]
  refine wpAnyH_ready (rs := [8]) (by kernel_rfl) (by simp) ?_
  refine AllReadyH.cons rfl (fun K hK => ?_) AllReadyH.nil
  go_simp
  refine hK.out _ _ ((((((hHeld3.set 5 _).set 6 _).set 7 _).set 8 _).set 9 _).set 10 _) (fun hHeld4 => ?_)
  clear hHeld3
  clear hK K
  try simp only [Act.put, List.setIfInBounds_toArray, List.set_cons_zero, List.set_cons_succ]
  refine wpAnyH_take (i := 9) (oi := { dst := some 15, op := Op.fieldAddr 49 (Operand.tmp 4) 5, type := _, pos := _, after := _, guard := none }) (v := .pointer (some ⟨B, 11, none⟩)) rfl (by kernel_rfl) (by kernel_rfl) (by kernel_rfl) (fun _ _ _ h => h) (Or.inl ⟨by rfl, fun w hSw => by (try dsimp only at hSw); go_simp⟩) (by assumption) ?_
  simp only [Act.put, List.setIfInBounds_toArray, List.set_cons_zero, List.set_cons_succ]
  refine wpAnyH_ready (rs := [10]) (by kernel_rfl) (by simp) ?_
  refine AllReadyH.cons rfl (fun K hK => ?_) AllReadyH.nil
  go_simp
  refine hK.out _ _ (hHeld4.set 11 _) (fun hHeld5 => ?_)
  clear hHeld4
  clear hK K
  try simp only [Act.put, List.setIfInBounds_toArray, List.set_cons_zero, List.set_cons_succ]
  refine wpAnyH_done (by kernel_rfl) ?_ _
  clear z2 z3 z4 z5 z6 z7 z8 z9 z10 z11 y2 y3 y4 y5 y6 y7 y8 y9 y10 y11
  have hN := Rt.row_setCell (Rt.row_setCell (Rt.row_setCell (Rt.row_setCell (Rt.row_setCell (Rt.row_setCell (Rt.row_setCell (Rt.row_setCell (Rt.row_setCell (Rt.row_setCell HM.out 2 (.int .i64 e)) 3 (.int .i64 l.bas)) 4 (.int .i64 l.stp)) 5 (.int .i64 a.bas)) 6 (.int .i64 a.stp)) 7 (.int .i64 b.bas)) 8 (.int .i64 b.stp)) 9 (.int .i64 c.bas)) 10 (.int .i64 c.stp)) 11 (.bool true)
  rw [arr_row] at hN
  obtain ⟨w2, hw2⟩ : ∃ W, (((((((((wd.setCell ⟨B, 2, none⟩ (.int .i64 e)).setCell ⟨B, 3, none⟩ (.int .i64 l.bas)).setCell ⟨B, 4, none⟩ (.int .i64 l.stp)).setCell ⟨B, 5, none⟩ (.int .i64 a.bas)).setCell ⟨B, 6, none⟩ (.int .i64 a.stp)).setCell ⟨B, 7, none⟩ (.int .i64 b.bas)).setCell ⟨B, 8, none⟩ (.int .i64 b.stp)).setCell ⟨B, 9, none⟩ (.int .i64 c.bas)).setCell ⟨B, 10, none⟩ (.int .i64 c.stp)).setCell ⟨B, 11, none⟩ (.bool true) = W := ⟨_, rfl⟩
  rw [hw2] at hN hHeld5 ⊢
  clear hw2
  have HA : Hid (arr m e l a b c = calm ⟨m.who, m.slt, e, l, a, b, c, true, m.out, m.bh⟩) := rfl
  obtain ⟨n, hn⟩ : ∃ n : Mb, (⟨m.who, m.slt, e, l, a, b, c, true, m.out, m.bh⟩ : Mb) = n := ⟨_, rfl⟩
  have HNB : Hid (n.bh = m.bh ∧ n.ep = e) := by unfold Hid; rw [← hn]; exact ⟨rfl, rfl⟩
  rw [hn] at hN HA
  clear hn
  have hN2 : MA w2 B n := hN
  have cb := hN2.bh
  rw [HNB.out.1] at cb
  have hrs := restart_any n
  obtain ⟨cn, hcn⟩ : ∃ c, mba n = c := ⟨_, rfl⟩
  have HN : Hid (mba n = cn) := hcn
  simp only [hcn] at hrs
  clear hcn hN
  by_cases hle : m.bh ≤ e
  · have HF : Hid (arr m e l a b c = bh0 n) := by unfold Hid; rw [HA.out]; unfold calm; rw [HNB.out.1, HNB.out.2, if_pos hle]
    go_wp2_with (first | (refine ldMb hN2 HN.out _ rfl rfl rfl ?_))
    refine (hrs _).mono ?_
    rintro r w3 ⟨rfl, hb3⟩
    have hR3 : MA w3 K zMb := hHeld5.re.later hb3
    have HB3 : Hid (Below w.heap.size w w3) := Wi.Below.join hHeld5.bel hb3
    clear hb3 hHeld5 hN2 hrs cb
    go_wp2_with (refine stMb (n := bh0 n) hR3 rfl rfl _ _ rfl rfl rfl ?_)
    refine bodyPost_ret (resOne (p := 8) rfl _ _ K (mba (bh0 n)) rfl (hR3.row (bh0 n)).var) rfl ?_
    exact ⟨by rw [HF.out], Rt.setRow_below HGE.out HB3.out _⟩
  · have HF : Hid (arr m e l a b c = n) := by unfold Hid; rw [HA.out]; unfold calm; rw [HNB.out.1, HNB.out.2, if_neg hle]
    have dle : decide (m.bh ≤ e) = false := decide_eq_false hle
    have hR3 : MA w2 K zMb := hHeld5.re
    have HB3 : Hid (Below w.heap.size w w2) := hHeld5.bel
    clear hHeld5 hrs
    go_wp2_with (first | (refine ldMb hN2 HN.out _ rfl rfl rfl ?_) | (refine stMb hR3 HN.out rfl _ _ rfl rfl rfl ?_))
    refine bodyPost_ret (resOne (p := 8) rfl _ _ K (mba n) rfl (hR3.row n).var) rfl ?_
    exact ⟨by rw [HF.out], Rt.setRow_below HGE.out HB3.out _⟩
end Go.Proofs.Ytdghibimelhgjaa.Mb
/- Contracts: climb, with each of its two closures (made by wip/mk_climb.py). -/
namespace Go.Proofs.Ytdghibimelhgjaa.Mb
open Go.RowKit Go.Maps
open Rt (Ky zK gd gv Gd pcs KyAt)
open Wi (gR gE gW gS gI gB gK ldM stM rd_guard ra_of th_of ra_later RdV itl stl)
set_option linter.unusedVariables false
set_option linter.unusedSimpArgs false

def clE (x y z : Int × Ky) : Int := if x.1 = 0 then (if y.1 = 0 then z.1 else y.1) else x.1
def clK (x y z : Int × Ky) (k : Ky) : Ky := if clE x y z = 0 then k else zK
def CliA (x y z : Int × Ky) : Ending := .returned (.tuple #[.agg (pal (clK x y z x.2) (clK x y z y.2) (clK x y z z.2)).toArray, .int .i64 (clE x y z)])
theorem CliA.no {x y z : Int × Ky} {e : Int} (h : clE x y z = e) (h0 : e ≠ 0) : Ending.returned (.tuple #[.agg (pal zK zK zK).toArray, .int .i64 e]) = CliA x y z := by unfold CliA clK; rw [h, if_neg h0, if_neg h0, if_neg h0]
theorem CliA.yes {x y z : Int × Ky} (h : clE x y z = 0) : Ending.returned (.tuple #[.agg (pal x.2 y.2 z.2).toArray, .int .i64 0]) = CliA x y z := by unfold CliA clK; rw [h, if_pos rfl, if_pos rfl, if_pos rfl]
theorem path_nd (s : Int) (h0 : 0 ≤ s) (h1 : s < 64) (w : World) : Calls Try.prog 72 #[.int .i64 s] w fun e w' => e = .returned (.tuple #[.agg #[.int .i64 (nd s 0), .int .i64 (nd s 1), .int .i64 (nd s 2)], .bool true]) ∧ Below w.heap.size w w' := by
  have h := Sh.path_yes s h0 h1 w
  have e0 : nd s 0 = 5 + s / 4 := by unfold nd pn; rw [if_pos rfl]; omega
  have e1 : nd s 1 = 1 + s / 16 := by unfold nd pn; rw [if_neg (by decide), if_pos rfl]; omega
  have e2 : nd s 2 = 0 := rfl
  rw [e0, e1, e2]
  exact h
theorem jx0 (a b c : Value) (w : World) : (Instr.index 99 (.agg #[a, b, c]) (.int .i64 0)).run Try.prog w = .ok a w := by kernel_rfl
theorem jx1 (a b c : Value) (w : World) : (Instr.index 99 (.agg #[a, b, c]) (.int .i64 1)).run Try.prog w = .ok b w := by kernel_rfl
theorem jx2 (a b c : Value) (w : World) : (Instr.index 99 (.agg #[a, b, c]) (.int .i64 2)).run Try.prog w = .ok c w := by kernel_rfl
theorem PAt.var {w : World} {B : Nat} {a b c : Ky} (h : PAt w B a b c) : (loadVar 47 ⟨B, 0, none⟩).run Try.prog w = .ok (.agg (pal a b c).toArray) w := run_loadVar_row w B _ 47 _ _ _ h Try.underlying47 rfl szPath
theorem PAt.row {w : World} {B : Nat} {a b c : Ky} (h : PAt w B a b c) (d e f : Ky) : PAt (w.setRow B (pal d e f).toArray) B d e f := Rt.heap_setRow_same h _
theorem pal_one (a b c : Ky) : (pal a b c).toArray.all (·.oneCell') = true := by simp [pal, Value.oneCell']
theorem stPa {ops : Array Oper} {rest : List Oper} {o : Oper} {ac : Act} {w : World} {Q : Exit → Act → World → Prop} {B : Nat} {a b c : Ky} (h : PAt w B a b c) (d e f : Ky) (hgd : o.guard = none) (x y : Operand) (ho : o.op = .store 47 x y) (hx : ac.eval x = .pointer (some ⟨B, 0, none⟩)) (hy : ac.eval y = .agg (pal d e f).toArray)
    (k : wpList Try.prog ops Q rest (ac.put o.dst undef) (w.setRow B (pal d e f).toArray)) : wpList Try.prog ops Q (o :: rest) ac w :=
  stRow szPath (cs := (pal a b c).toArray) rfl h (pal d e f).toArray rfl (pal_one d e f) hgd x y ho hx hy k
theorem ldPt {ops : Array Oper} {rest : List Oper} {o : Oper} {ac : Act} {w : World} {Q : Exit → Act → World → Prop} {B : Nat} {a b c : Ky} (h : PAt w B a b c) (x : Operand) (ho : o.op = .load 47 x) (hx : ac.eval x = .pointer (some ⟨B, 0, none⟩)) (hw : Region.wanted o (yielded ops ac.tmps) = true)
    (k : wpList Try.prog ops Q rest (ac.put o.dst (.agg (pal a b c).toArray)) w) : wpList Try.prog ops Q (o :: rest) ac w := ldM h.all Try.underlying47 rfl szPath x ho hx hw k
theorem PAt.cells {w : World} {B : Nat} {a b c : Ky} (h : PAt w B a b c) : (w.cell? ⟨B, 0, none⟩ = some (.int .i64 a.bas) ∧ w.cell? ⟨B, 1, none⟩ = some (.int .i64 a.stp)) ∧ (w.cell? ⟨B, 2, none⟩ = some (.int .i64 b.bas) ∧ w.cell? ⟨B, 3, none⟩ = some (.int .i64 b.stp)) ∧ w.cell? ⟨B, 4, none⟩ = some (.int .i64 c.bas) ∧ w.cell? ⟨B, 5, none⟩ = some (.int .i64 c.stp) :=
  ⟨⟨cell_of_row w B 0 _ _ _ h, cell_of_row w B 1 _ _ _ h⟩, ⟨cell_of_row w B 2 _ _ _ h, cell_of_row w B 3 _ _ _ h⟩, cell_of_row w B 4 _ _ _ h, cell_of_row w B 5 _ _ _ h⟩
theorem PAt.set0 {w : World} {B : Nat} {a b c : Ky} (h : PAt w B a b c) (x : Ky) : PAt ((w.setCell ⟨B, 0, none⟩ (.int .i64 x.bas)).setCell ⟨B, 1, none⟩ (.int .i64 x.stp)) B x b c := Rt.row_setCell (Rt.row_setCell h 0 (.int .i64 x.bas)) 1 (.int .i64 x.stp)
theorem PAt.set1 {w : World} {B : Nat} {a b c : Ky} (h : PAt w B a b c) (x : Ky) : PAt ((w.setCell ⟨B, 2, none⟩ (.int .i64 x.bas)).setCell ⟨B, 3, none⟩ (.int .i64 x.stp)) B a x c := Rt.row_setCell (Rt.row_setCell h 2 (.int .i64 x.bas)) 3 (.int .i64 x.stp)
theorem PAt.set2 {w : World} {B : Nat} {a b c : Ky} (h : PAt w B a b c) (x : Ky) : PAt ((w.setCell ⟨B, 4, none⟩ (.int .i64 x.bas)).setCell ⟨B, 5, none⟩ (.int .i64 x.stp)) B a b x := Rt.row_setCell (Rt.row_setCell h 4 (.int .i64 x.bas)) 5 (.int .i64 x.stp)
theorem two_other {w : World} {A B : Nat} {o : Option Obj} (h : w.heap[A]? = o) (hne : A ≠ B) (i j : Nat) (u v : Value) : ((w.setCell ⟨B, i, none⟩ u).setCell ⟨B, j, none⟩ v).heap[A]? = o := by rw [Rt.other_setCell hne, Rt.other_setCell hne]; exact h
theorem two_bel {n : Nat} {w W : World} (h : Below n w W) {B : Nat} (hB : n ≤ B) (i j : Nat) (u v : Value) : Below n w ((W.setCell ⟨B, i, none⟩ u).setCell ⟨B, j, none⟩ v) := (h.setCell (p := ⟨B, i, none⟩) hB u).setCell (p := ⟨B, j, none⟩) hB v
structure CL (w W : World) (K Y P : Nat) (k a b c : Ky) : Prop where
  re : PAt W K zK zK zK
  ky : KyAt W Y k
  pa : PAt W P a b c
  bel : Below w.heap.size w W
  gK : w.heap.size ≤ K
  gY : w.heap.size ≤ Y
  gP : w.heap.size ≤ P
  ne : K ≠ P
theorem CL.later {w W W' : World} {K Y P : Nat} {k a b c : Ky} (h : CL w W K Y P k a b c) (hb : Below W.heap.size W W') : CL w W' K Y P k a b c := ⟨h.re.later hb, h.ky.later hb, h.pa.later hb, h.bel.trans (hb.mono h.bel.size), h.gK, h.gY, h.gP, h.ne⟩
structure C0 (w W : World) (A K : Nat) (k : Ky) : Prop where
  ky : KyAt W A k
  re : PAt W K zK zK zK
  bel : Below w.heap.size w W
  ge : w.heap.size ≤ K
theorem C0.later {w W W' : World} {A K : Nat} {k : Ky} (h : C0 w W A K k) (hb : Below W.heap.size W W') : C0 w W' A K k := ⟨h.ky.later hb, h.re.later hb, h.bel.trans (hb.mono h.bel.size), h.ge⟩
theorem C0.new (w : World) (k : Ky) : C0 w ((w.alloc (.cells #[.int .i64 k.bas, .int .i64 k.stp] 23)).alloc (.cells (pal zK zK zK).toArray 47)) w.heap.size (w.heap.size + 1) k := by
  have h2 : PAt ((w.alloc (.cells #[.int .i64 k.bas, .int .i64 k.stp] 23)).alloc (.cells (pal zK zK zK).toArray 47)) (w.alloc (.cells #[.int .i64 k.bas, .int .i64 k.stp] 23)).heap.size zK zK zK := heap_alloc_last _ _
  rw [World.size_alloc] at h2
  exact ⟨(KyAt.new w k).later (below_alloc _ _), h2, Wi.Below.plus (below_alloc _ _) _, by omega⟩
theorem pz_eq : (#[.int .i64 0, .int .i64 0, .int .i64 0, .int .i64 0, .int .i64 0, .int .i64 0] : Array Value) = (pal zK zK zK).toArray := rfl
theorem cl_1 {x y z : Int × Ky} {e : Int} (h : x.1 = e) (h0 : e ≠ 0) : clE x y z = e := by unfold clE; rw [h, if_neg h0]
theorem cl_2 {x y z : Int × Ky} {e : Int} (h1 : x.1 = 0) (h : y.1 = e) (h0 : e ≠ 0) : clE x y z = e := by unfold clE; rw [if_pos h1, h, if_neg h0]
theorem cl_3 {x y z : Int × Ky} {e : Int} (h1 : x.1 = 0) (h2 : y.1 = 0) (h : z.1 = e) : clE x y z = e := by unfold clE; rw [if_pos h1, if_pos h2, h]
set_option maxRecDepth 100000 in
set_option maxHeartbeats 4000000 in
theorem climb_enter (s : Int) (hs0 : 0 ≤ s) (hs1 : s < 64) (k : Ky) (x0 x1 x2 : Int × Ky) (w : World) (D B : Nat)
    (h0 : ∀ W, Below w.heap.size w W → Calls Try.prog 44 #[.int .i64 0, .int .i64 (nd s 0), .int .i64 (21 + s), .agg #[.int .i64 k.bas, .int .i64 k.stp], .pointer (some ⟨D, 0, none⟩), .pointer (some ⟨B, 0, none⟩)] W fun e w' => e = KyR x0 ∧ Below W.heap.size W w')
    (h1 : x0.1 = 0 → ∀ W, Below w.heap.size w W → Calls Try.prog 44 #[.int .i64 1, .int .i64 (nd s 1), .int .i64 (nd s 0), .agg #[.int .i64 x0.2.bas, .int .i64 x0.2.stp], .pointer (some ⟨D, 0, none⟩), .pointer (some ⟨B, 0, none⟩)] W fun e w' => e = KyR x1 ∧ Below W.heap.size W w')
    (h2 : x0.1 = 0 → x1.1 = 0 → ∀ W, Below w.heap.size w W → Calls Try.prog 44 #[.int .i64 2, .int .i64 (nd s 2), .int .i64 (nd s 1), .agg #[.int .i64 x1.2.bas, .int .i64 x1.2.stp], .pointer (some ⟨D, 0, none⟩), .pointer (some ⟨B, 0, none⟩)] W fun e w' => e = KyR x2 ∧ Below W.heap.size W w') :
    Calls Try.prog 43 #[.int .i64 s, .agg #[.int .i64 k.bas, .int .i64 k.stp], .func (.func 44) #[] #[.pointer (some ⟨D, 0, none⟩), .pointer (some ⟨B, 0, none⟩)] ] w fun e w' => e = CliA x0 x1 x2 ∧ Below w.heap.size w w' := by
  have hP := path_nd s hs0 hs1
  have hl := Sh.leaf_any s
  rw [Sh.lef_yes hs0 hs1] at hl
  have hS := C0.new w k
  generalize nd s 0 = n0 at *
  generalize nd s 1 = n1 at *
  generalize nd s 2 = n2 at *
  generalize 21 + s = q at *
  unfold KyR at h0 h1 h2
  have jx0 := jx0
  have jx1 := jx1
  have jx2 := jx2
  have H0 : Hid _ := h0
  have H1 : Hid _ := h1
  have H2 : Hid _ := h2
  clear h0 h1 h2 hs0 hs1
  go_enter Try.func43, Try.ntmps43
  go_upto_region 1 with (fail)
  rw [pz_eq]
  generalize (w.alloc (.cells #[.int .i64 k.bas, .int .i64 k.stp] 23)).alloc (.cells (pal zK zK zK).toArray 47) = w1 at *
  obtain ⟨K, hK⟩ : ∃ K, w.heap.size + 1 = K := ⟨_, rfl⟩
  obtain ⟨A, hA⟩ : ∃ A, w.heap.size = A := ⟨_, rfl⟩
  rw [hK, hA] at hS ⊢
  clear hK hA
  go_wp2_with fail
  refine (hP _).mono ?_
  rintro e w2 ⟨rfl, hb2⟩
  have hS3 := (hS.later hb2).later (below_alloc w2 (.cells #[.int .i64 n0, .int .i64 n1, .int .i64 n2] 99))
  have hN3 : (w2.alloc (.cells #[.int .i64 n0, .int .i64 n1, .int .i64 n2] 99)).heap[w2.heap.size]? = some (.cells #[.int .i64 n0, .int .i64 n1, .int .i64 n2] 99 (0, 0)) := heap_alloc_last w2 _
  clear hS hb2 hP
  go_upto_region 2 with (fail)
  generalize w2.alloc (.cells #[.int .i64 n0, .int .i64 n1, .int .i64 n2] 99) = w3 at *
  generalize w2.heap.size = N at *
  go_cut [10, 11] (fun s10 s11 wx => ∃ Y, s10 = .int .i64 q ∧ s11 = .pointer (some ⟨Y, 0, none⟩) ∧ C0 w wx A K k ∧ wx.heap[N]? = some (.cells #[.int .i64 n0, .int .i64 n1, .int .i64 n2] 99 (0, 0)) ∧ KyAt wx Y k ∧ w.heap.size ≤ Y)
  case first =>
    have hS0 : Below w3.heap.size w3 w3.drew := drew_below _
    have hG : w.heap.size ≤ w3.drew.heap.size := hS3.bel.size
    refine wp_region_held_drew (S := fun W => Below w3.heap.size w3 W) (by kernel_rfl) hS0 (fun hHeld => ?_)
    clear hS0
    have HPRE : Hid (Below w3.heap.size w3 w3.drew) := hHeld
    generalize w3.drew = wd at *
    have HS3 : Hid (C0 w w3 A K k) := hS3
    have HN3 : Hid (w3.heap[N]? = some (.cells #[.int .i64 n0, .int .i64 n1, .int .i64 n2] 99 (0, 0))) := hN3
    have HG : Hid (w.heap.size ≤ wd.heap.size) := hG
    clear hS3 hN3 hG
    refine wpAnyH_take (i := 0) (oi := { dst := some 22, op := Op.move (Operand.tmp 0), type := _, pos := _, after := _, guard := none }) (v := .int .i64 s) rfl (by kernel_rfl) (by kernel_rfl) (by kernel_rfl) (fun _ _ _ h => h) (Or.inl ⟨by rfl, fun w hSw => by (try dsimp only at hSw); go_simp⟩) (by assumption) ?_
    simp only [Act.put, List.setIfInBounds_toArray, List.set_cons_zero, List.set_cons_succ]
    refine wpAnyH_take (i := 2) (oi := { dst := some 24, op := Op.load 23 (Operand.tmp 4), type := _, pos := _, after := _, guard := none }) (v := .agg #[.int .i64 k.bas, .int .i64 k.stp]) rfl (by kernel_rfl) (by kernel_rfl) (by kernel_rfl) (fun _ _ _ h => h) (Or.inl ⟨by rfl, fun w hSw => by obtain ⟨c0, c1⟩ := (HS3.out.ky.later hSw).cells; clear hSw; go_simp⟩) (by assumption) ?_
    simp only [Act.put, List.setIfInBounds_toArray, List.set_cons_zero, List.set_cons_succ]
    refine wpAnyH_ready (rs := [1, 3]) (by kernel_rfl) (by simp) ?_
    refine (AllReadyH.cons rfl (fun K hK => ?_) (AllReadyH.cons rfl (fun K hK => ?_) AllReadyH.nil))
    · go_simp
      refine (hl _).mono ?_
      first | (rintro e wd ⟨rfl, rfl⟩) | (rintro e wz ⟨rfl, rfl⟩)
      go_wp2_with fail
      refine hK.out _ _ hHeld (fun hHd1 => ?_)
      clear hHeld
      clear hK K
      try simp only [Act.put, List.setIfInBounds_toArray, List.set_cons_zero, List.set_cons_succ]
      refine wpAnyH_ready (rs := [3]) (by kernel_rfl) (by simp) ?_
      refine AllReadyH.cons rfl (fun K hK => ?_) AllReadyH.nil
      go_simp
      refine hK.out _ _ (HPRE.out.trans ((below_alloc _ _).mono HPRE.out.size)) (fun hHd2 => ?_)
      clear hHd1
      clear hK K
      try simp only [Act.put, List.setIfInBounds_toArray, List.set_cons_zero, List.set_cons_succ]
      refine wpAnyH_take (i := 4) (oi := { dst := some 10, op := Op.assign (Operand.tmp 23), type := _, pos := _, after := _, guard := none }) (v := .int .i64 q) rfl (by kernel_rfl) (by kernel_rfl) (by kernel_rfl) (fun _ _ _ h => h) (Or.inl ⟨by rfl, fun w hSw => by (try dsimp only at hSw); go_simp⟩) (by assumption) ?_
      simp only [Act.put, List.setIfInBounds_toArray, List.set_cons_zero, List.set_cons_succ]
      refine wpAnyH_ready (rs := [5]) (by kernel_rfl) (by simp) ?_
      refine AllReadyH.cons rfl (fun K hK => ?_) AllReadyH.nil
      go_simp
      refine hK.out _ _ (HPRE.out.trans ((below_alloc _ _).mono HPRE.out.size)) (fun hHd3 => ?_)
      clear hHd2
      clear hK K
      try simp only [Act.put, List.setIfInBounds_toArray, List.set_cons_zero, List.set_cons_succ]
      refine wpAnyH_done (by kernel_rfl) ?_ _
      go_wp2_with fail
      go_meet
      case rel => exact ⟨_, rfl, rfl, HS3.out.later hHd3, row_later HN3.out hHd3, KyAt.new wd k, HG.out⟩
    · go_simp
      refine hK.out _ _ (HPRE.out.trans ((below_alloc _ _).mono HPRE.out.size)) (fun hHd1 => ?_)
      clear hHeld
      clear hK K
      try simp only [Act.put, List.setIfInBounds_toArray, List.set_cons_zero, List.set_cons_succ]
      refine wpAnyH_ready (rs := [1]) (by kernel_rfl) (by simp) ?_
      refine AllReadyH.cons rfl (fun K hK => ?_) AllReadyH.nil
      go_simp
      refine (hl _).mono ?_
      first | (rintro e wd ⟨rfl, rfl⟩) | (rintro e wz ⟨rfl, rfl⟩)
      go_wp2_with fail
      refine hK.out _ _ hHd1 (fun hHd2 => ?_)
      clear hHd1
      clear hK K
      try simp only [Act.put, List.setIfInBounds_toArray, List.set_cons_zero, List.set_cons_succ]
      refine wpAnyH_take (i := 4) (oi := { dst := some 10, op := Op.assign (Operand.tmp 23), type := _, pos := _, after := _, guard := none }) (v := .int .i64 q) rfl (by kernel_rfl) (by kernel_rfl) (by kernel_rfl) (fun _ _ _ h => h) (Or.inl ⟨by rfl, fun w hSw => by (try dsimp only at hSw); go_simp⟩) (by assumption) ?_
      simp only [Act.put, List.setIfInBounds_toArray, List.set_cons_zero, List.set_cons_succ]
      refine wpAnyH_ready (rs := [5]) (by kernel_rfl) (by simp) ?_
      refine AllReadyH.cons rfl (fun K hK => ?_) AllReadyH.nil
      go_simp
      refine hK.out _ _ (HPRE.out.trans ((below_alloc _ _).mono HPRE.out.size)) (fun hHd3 => ?_)
      clear hHd2
      clear hK K
      try simp only [Act.put, List.setIfInBounds_toArray, List.set_cons_zero, List.set_cons_succ]
      refine wpAnyH_done (by kernel_rfl) ?_ _
      go_wp2_with fail
      go_meet
      case rel => exact ⟨_, rfl, rfl, HS3.out.later hHd3, row_later HN3.out hHd3, KyAt.new wd k, HG.out⟩
  case rest =>
    obtain ⟨Y, rfl, rfl, hS4, hN4, hY4, gY⟩ := hcut
    clear hS3 hN3 hl
    have m0 := cell_of_row wc N 0 _ _ _ hN4
    have m1 := cell_of_row wc N 1 _ _ _ hN4
    have m2 := cell_of_row wc N 2 _ _ _ hN4
    have hC0 : CL w (wc.alloc (.cells (pal zK zK zK).toArray 47)) K Y wc.heap.size k zK zK zK := ⟨hS4.re.later (below_alloc _ _), hY4.later (below_alloc _ _), heap_alloc_last wc _, Wi.Below.plus hS4.bel _, hS4.ge, gY, hS4.bel.size, Nat.ne_of_lt (Array.getElem?_eq_some_iff.1 hS4.re).1⟩
    clear hS4 hY4 gY hN4
    go_upto_region 4 with (fail)
    rw [pz_eq]
    have m0 : (wc.alloc (.cells (pal zK zK zK).toArray 47)).cell? ⟨N, 0, none⟩ = _ := Rs.cell_later (below_alloc _ _) m0
    have m1 : (wc.alloc (.cells (pal zK zK zK).toArray 47)).cell? ⟨N, 1, none⟩ = _ := Rs.cell_later (below_alloc _ _) m1
    have m2 : (wc.alloc (.cells (pal zK zK zK).toArray 47)).cell? ⟨N, 2, none⟩ = _ := Rs.cell_later (below_alloc _ _) m2
    generalize wc.alloc (.cells (pal zK zK zK).toArray 47) = wp at *
    generalize wc.heap.size = P at *
    go_wp2_with fail
    refine wp_loop_rounds 4 ?_
    clear m0 m1 m2
    /- round 0 -/
    rw [rounds_succ]
    have hY0 := hC0.ky.cells
    obtain ⟨y0, y1⟩ := hY0
    go_wp2_with fail
    refine (H0.out _ hC0.bel).mono ?_
    rintro e v0 ⟨rfl, hb⟩
    have hD := (hC0.later hb).later (below_alloc v0 (.cells #[.int .i64 x0.2.bas, .int .i64 x0.2.stp] 23))
    have hF : KyAt (v0.alloc (.cells #[.int .i64 x0.2.bas, .int .i64 x0.2.stp] 23)) v0.heap.size x0.2 := KyAt.new v0 x0.2
    have hFY : v0.heap.size ≠ Y := Nat.ne_of_gt (hC0.later hb).ky.lt
    have hFP : v0.heap.size ≠ P := Nat.ne_of_gt (Array.getElem?_eq_some_iff.1 (hC0.later hb).pa).1
    clear hC0 hb y0 y1
    go_upto_region 8 with (fail)
    generalize v0.alloc (.cells #[.int .i64 x0.2.bas, .int .i64 x0.2.stp] 23) = u0 at *
    generalize v0.heap.size = F0 at *
    have hre := hD.re
    rcases Decidable.em (x0.1 = 0) with z0 | z0
    rotate_left
    · have dz : (x0.1 != 0) = true := by simpa using z0
      have HA : Hid _ := CliA.no (cl_1 (x := x0) (y := x1) (z := x2) rfl z0) z0
      obtain ⟨e, he⟩ : ∃ e, x0.1 = e := ⟨_, rfl⟩
      rw [he] at dz HA ⊢
      clear he z0
      go_wp2_with (refine stPa hre zK zK zK rfl _ _ rfl rfl rfl ?_)
      refine bodyPost_ret (resRow (p := 6) (t := 7) rfl _ _ K (pal zK zK zK).toArray rfl (hre.row zK zK zK).var) rfl ?_
      exact ⟨HA.out, Rt.setRow_below hD.gK hD.bel _⟩
    have HZ0 : Hid (x0.1 = 0) := z0
    rw [z0]
    clear z0 hre
    obtain ⟨⟨a0, a1⟩, ⟨a2, a3⟩, a4, a5⟩ := hD.pa.cells
    obtain ⟨f0, f1⟩ := hF.cells
    have g0 := Rt.row_frozen hD.pa 0
    have g1 := Rt.row_frozen hD.pa 1
    have g2 := Rt.row_frozen hD.pa 2
    have g3 := Rt.row_frozen hD.pa 3
    have g4 := Rt.row_frozen hD.pa 4
    have g5 := Rt.row_frozen hD.pa 5
    go_upto_region 11 with (fail)
    have hE : CL w ((u0.setCell ⟨P, 0, none⟩ (.int .i64 x0.2.bas)).setCell ⟨P, 1, none⟩ (.int .i64 x0.2.stp)) K Y P k x0.2 zK zK := ⟨two_other hD.re hD.ne _ _ _ _, two_other hD.ky (block_ne hD.ky hD.pa (by decide)) _ _ _ _, hD.pa.set0 x0.2, two_bel hD.bel hD.gP _ _ _ _, hD.gK, hD.gY, hD.gP, hD.ne⟩
    have hF2 : KyAt ((u0.setCell ⟨P, 0, none⟩ (.int .i64 x0.2.bas)).setCell ⟨P, 1, none⟩ (.int .i64 x0.2.stp)) F0 x0.2 := two_other hF hFP _ _ _ _
    clear hD hF hFP a0 a1 a2 a3 a4 a5 f0 f1 g0 g1 g2 g3 g4 g5
    generalize ((u0.setCell ⟨P, 0, none⟩ (.int .i64 x0.2.bas)).setCell ⟨P, 1, none⟩ (.int .i64 x0.2.stp)) = t0 at *
    have hS0 : KyAt t0.drew F0 x0.2 := hF2.later (drew_below _)
    have hE0 := hE.later (drew_below t0)
    have HE0 : Hid _ := hE0
    have HFY : Hid (F0 ≠ Y) := hFY
    clear hE hF2 hFY
    refine wp_region_held_drew (S := fun W => KyAt W F0 x0.2) (by kernel_rfl) hS0 (fun hHeld => ?_)
    clear hS0
    obtain ⟨y0, y1⟩ := HE0.out.ky.cells
    have q0 := Rt.row_frozen HE0.out.ky 0
    have q1 := Rt.row_frozen HE0.out.ky 1
    clear hE0
    generalize t0.drew = td0 at *
    refine wpAnyH_take (i := 0) (oi := { dst := some 46, op := Op.move (Operand.tmp 14), type := _, pos := _, after := _, guard := none }) (v := .int .i64 n0) rfl (by kernel_rfl) (by kernel_rfl) (by kernel_rfl) (fun _ _ _ h => h) (Or.inl ⟨by rfl, fun w hSw => by (try dsimp only at hSw); go_simp⟩) (by assumption) ?_
    simp only [Act.put, List.setIfInBounds_toArray, List.set_cons_zero, List.set_cons_succ]
    refine wpAnyH_take (i := 1) (oi := { dst := some 47, op := Op.load 23 (Operand.tmp 15), type := _, pos := _, after := _, guard := none }) (v := .agg #[.int .i64 x0.2.bas, .int .i64 x0.2.stp]) rfl (by kernel_rfl) (by kernel_rfl) (by kernel_rfl) (fun _ _ _ h => h) (Or.inl ⟨by rfl, fun w hSw => by obtain ⟨c0, c1⟩ := hSw.cells; clear hSw y0 y1 q0 q1; go_simp⟩) (by assumption) ?_
    simp only [Act.put, List.setIfInBounds_toArray, List.set_cons_zero, List.set_cons_succ]
    refine wpAnyH_take (i := 2) (oi := { dst := some 10, op := Op.assign (Operand.tmp 46), type := _, pos := _, after := _, guard := none }) (v := .int .i64 n0) rfl (by kernel_rfl) (by kernel_rfl) (by kernel_rfl) (fun _ _ _ h => h) (Or.inl ⟨by rfl, fun w hSw => by (try dsimp only at hSw); go_simp⟩) (by assumption) ?_
    simp only [Act.put, List.setIfInBounds_toArray, List.set_cons_zero, List.set_cons_succ]
    refine wpAnyH_ready (rs := [3]) (by kernel_rfl) (by simp) ?_
    refine AllReadyH.cons rfl (fun K hK => ?_) AllReadyH.nil
    go_simp
    refine hK.out _ _ (two_other hHeld HFY.out _ _ _ _) (fun hHeld2 => ?_)
    clear hHeld
    clear hK K
    try simp only [Act.put, List.setIfInBounds_toArray, List.set_cons_zero, List.set_cons_succ]
    refine wpAnyH_done (by kernel_rfl) ?_ _
    clear y0 y1 q0 q1 hHeld2
    have hC1 : CL w ((td0.setCell ⟨Y, 0, none⟩ (.int .i64 x0.2.bas)).setCell ⟨Y, 1, none⟩ (.int .i64 x0.2.stp)) K Y P x0.2 x0.2 zK zK := ⟨two_other HE0.out.re (block_ne HE0.out.re HE0.out.ky (by decide)) _ _ _ _, KyAt.set HE0.out.ky x0.2.bas x0.2.stp, two_other HE0.out.pa (block_ne HE0.out.pa HE0.out.ky (by decide)) _ _ _ _, two_bel HE0.out.bel HE0.out.gY _ _ _ _, HE0.out.gK, HE0.out.gY, HE0.out.gP, HE0.out.ne⟩
    clear HE0 HFY
    generalize ((td0.setCell ⟨Y, 0, none⟩ (.int .i64 x0.2.bas)).setCell ⟨Y, 1, none⟩ (.int .i64 x0.2.stp)) = s0 at *
    have z0 := HZ0.out
    clear HZ0
    go_wp2_with fail
    /- round 1 -/
    rw [rounds_succ]
    have hY1 := hC1.ky.cells
    obtain ⟨y0, y1⟩ := hY1
    go_wp2_with fail
    refine (H1.out z0 _ hC1.bel).mono ?_
    rintro e v1 ⟨rfl, hb⟩
    have hD := (hC1.later hb).later (below_alloc v1 (.cells #[.int .i64 x1.2.bas, .int .i64 x1.2.stp] 23))
    have hF : KyAt (v1.alloc (.cells #[.int .i64 x1.2.bas, .int .i64 x1.2.stp] 23)) v1.heap.size x1.2 := KyAt.new v1 x1.2
    have hFY : v1.heap.size ≠ Y := Nat.ne_of_gt (hC1.later hb).ky.lt
    have hFP : v1.heap.size ≠ P := Nat.ne_of_gt (Array.getElem?_eq_some_iff.1 (hC1.later hb).pa).1
    clear hC1 hb y0 y1
    go_upto_region 8 with (fail)
    generalize v1.alloc (.cells #[.int .i64 x1.2.bas, .int .i64 x1.2.stp] 23) = u1 at *
    generalize v1.heap.size = F1 at *
    have hre := hD.re
    rcases Decidable.em (x1.1 = 0) with z1 | z1
    rotate_left
    · have dz : (x1.1 != 0) = true := by simpa using z1
      have HA : Hid _ := CliA.no (cl_2 (x := x0) (y := x1) (z := x2) z0 rfl z1) z1
      obtain ⟨e, he⟩ : ∃ e, x1.1 = e := ⟨_, rfl⟩
      rw [he] at dz HA ⊢
      clear he z1
      go_wp2_with (refine stPa hre zK zK zK rfl _ _ rfl rfl rfl ?_)
      refine bodyPost_ret (resRow (p := 6) (t := 7) rfl _ _ K (pal zK zK zK).toArray rfl (hre.row zK zK zK).var) rfl ?_
      exact ⟨HA.out, Rt.setRow_below hD.gK hD.bel _⟩
    have HZ1 : Hid (x1.1 = 0) := z1
    rw [z1]
    clear z1 hre
    obtain ⟨⟨a0, a1⟩, ⟨a2, a3⟩, a4, a5⟩ := hD.pa.cells
    obtain ⟨f0, f1⟩ := hF.cells
    have g0 := Rt.row_frozen hD.pa 0
    have g1 := Rt.row_frozen hD.pa 1
    have g2 := Rt.row_frozen hD.pa 2
    have g3 := Rt.row_frozen hD.pa 3
    have g4 := Rt.row_frozen hD.pa 4
    have g5 := Rt.row_frozen hD.pa 5
    go_upto_region 11 with (fail)
    have hE : CL w ((u1.setCell ⟨P, 2, none⟩ (.int .i64 x1.2.bas)).setCell ⟨P, 3, none⟩ (.int .i64 x1.2.stp)) K Y P x0.2 x0.2 x1.2 zK := ⟨two_other hD.re hD.ne _ _ _ _, two_other hD.ky (block_ne hD.ky hD.pa (by decide)) _ _ _ _, hD.pa.set1 x1.2, two_bel hD.bel hD.gP _ _ _ _, hD.gK, hD.gY, hD.gP, hD.ne⟩
    have hF2 : KyAt ((u1.setCell ⟨P, 2, none⟩ (.int .i64 x1.2.bas)).setCell ⟨P, 3, none⟩ (.int .i64 x1.2.stp)) F1 x1.2 := two_other hF hFP _ _ _ _
    clear hD hF hFP a0 a1 a2 a3 a4 a5 f0 f1 g0 g1 g2 g3 g4 g5
    generalize ((u1.setCell ⟨P, 2, none⟩ (.int .i64 x1.2.bas)).setCell ⟨P, 3, none⟩ (.int .i64 x1.2.stp)) = t1 at *
    have hS0 : KyAt t1.drew F1 x1.2 := hF2.later (drew_below _)
    have hE0 := hE.later (drew_below t1)
    have HE0 : Hid _ := hE0
    have HFY : Hid (F1 ≠ Y) := hFY
    clear hE hF2 hFY
    refine wp_region_held_drew (S := fun W => KyAt W F1 x1.2) (by kernel_rfl) hS0 (fun hHeld => ?_)
    clear hS0
    obtain ⟨y0, y1⟩ := HE0.out.ky.cells
    have q0 := Rt.row_frozen HE0.out.ky 0
    have q1 := Rt.row_frozen HE0.out.ky 1
    clear hE0
    generalize t1.drew = td1 at *
    refine wpAnyH_take (i := 0) (oi := { dst := some 46, op := Op.move (Operand.tmp 14), type := _, pos := _, after := _, guard := none }) (v := .int .i64 n1) rfl (by kernel_rfl) (by kernel_rfl) (by kernel_rfl) (fun _ _ _ h => h) (Or.inl ⟨by rfl, fun w hSw => by (try dsimp only at hSw); go_simp⟩) (by assumption) ?_
    simp only [Act.put, List.setIfInBounds_toArray, List.set_cons_zero, List.set_cons_succ]
    refine wpAnyH_take (i := 1) (oi := { dst := some 47, op := Op.load 23 (Operand.tmp 15), type := _, pos := _, after := _, guard := none }) (v := .agg #[.int .i64 x1.2.bas, .int .i64 x1.2.stp]) rfl (by kernel_rfl) (by kernel_rfl) (by kernel_rfl) (fun _ _ _ h => h) (Or.inl ⟨by rfl, fun w hSw => by obtain ⟨c0, c1⟩ := hSw.cells; clear hSw y0 y1 q0 q1; go_simp⟩) (by assumption) ?_
    simp only [Act.put, List.setIfInBounds_toArray, List.set_cons_zero, List.set_cons_succ]
    refine wpAnyH_take (i := 2) (oi := { dst := some 10, op := Op.assign (Operand.tmp 46), type := _, pos := _, after := _, guard := none }) (v := .int .i64 n1) rfl (by kernel_rfl) (by kernel_rfl) (by kernel_rfl) (fun _ _ _ h => h) (Or.inl ⟨by rfl, fun w hSw => by (try dsimp only at hSw); go_simp⟩) (by assumption) ?_
    simp only [Act.put, List.setIfInBounds_toArray, List.set_cons_zero, List.set_cons_succ]
    refine wpAnyH_ready (rs := [3]) (by kernel_rfl) (by simp) ?_
    refine AllReadyH.cons rfl (fun K hK => ?_) AllReadyH.nil
    go_simp
    refine hK.out _ _ (two_other hHeld HFY.out _ _ _ _) (fun hHeld2 => ?_)
    clear hHeld
    clear hK K
    try simp only [Act.put, List.setIfInBounds_toArray, List.set_cons_zero, List.set_cons_succ]
    refine wpAnyH_done (by kernel_rfl) ?_ _
    clear y0 y1 q0 q1 hHeld2
    have hC2 : CL w ((td1.setCell ⟨Y, 0, none⟩ (.int .i64 x1.2.bas)).setCell ⟨Y, 1, none⟩ (.int .i64 x1.2.stp)) K Y P x1.2 x0.2 x1.2 zK := ⟨two_other HE0.out.re (block_ne HE0.out.re HE0.out.ky (by decide)) _ _ _ _, KyAt.set HE0.out.ky x1.2.bas x1.2.stp, two_other HE0.out.pa (block_ne HE0.out.pa HE0.out.ky (by decide)) _ _ _ _, two_bel HE0.out.bel HE0.out.gY _ _ _ _, HE0.out.gK, HE0.out.gY, HE0.out.gP, HE0.out.ne⟩
    clear HE0 HFY
    generalize ((td1.setCell ⟨Y, 0, none⟩ (.int .i64 x1.2.bas)).setCell ⟨Y, 1, none⟩ (.int .i64 x1.2.stp)) = s1 at *
    have z1 := HZ1.out
    clear HZ1
    go_wp2_with fail
    /- round 2 -/
    rw [rounds_succ]
    have hY2 := hC2.ky.cells
    obtain ⟨y0, y1⟩ := hY2
    go_wp2_with fail
    refine (H2.out z0 z1 _ hC2.bel).mono ?_
    rintro e v2 ⟨rfl, hb⟩
    have hD := (hC2.later hb).later (below_alloc v2 (.cells #[.int .i64 x2.2.bas, .int .i64 x2.2.stp] 23))
    have hF : KyAt (v2.alloc (.cells #[.int .i64 x2.2.bas, .int .i64 x2.2.stp] 23)) v2.heap.size x2.2 := KyAt.new v2 x2.2
    have hFY : v2.heap.size ≠ Y := Nat.ne_of_gt (hC2.later hb).ky.lt
    have hFP : v2.heap.size ≠ P := Nat.ne_of_gt (Array.getElem?_eq_some_iff.1 (hC2.later hb).pa).1
    clear hC2 hb y0 y1
    go_upto_region 8 with (fail)
    generalize v2.alloc (.cells #[.int .i64 x2.2.bas, .int .i64 x2.2.stp] 23) = u2 at *
    generalize v2.heap.size = F2 at *
    have hre := hD.re
    rcases Decidable.em (x2.1 = 0) with z2 | z2
    rotate_left
    · have dz : (x2.1 != 0) = true := by simpa using z2
      have HA : Hid _ := CliA.no (cl_3 (x := x0) (y := x1) (z := x2) z0 z1 rfl) z2
      obtain ⟨e, he⟩ : ∃ e, x2.1 = e := ⟨_, rfl⟩
      rw [he] at dz HA ⊢
      clear he z2
      go_wp2_with (refine stPa hre zK zK zK rfl _ _ rfl rfl rfl ?_)
      refine bodyPost_ret (resRow (p := 6) (t := 7) rfl _ _ K (pal zK zK zK).toArray rfl (hre.row zK zK zK).var) rfl ?_
      exact ⟨HA.out, Rt.setRow_below hD.gK hD.bel _⟩
    have HZ2 : Hid (x2.1 = 0) := z2
    rw [z2]
    clear z2 hre
    obtain ⟨⟨a0, a1⟩, ⟨a2, a3⟩, a4, a5⟩ := hD.pa.cells
    obtain ⟨f0, f1⟩ := hF.cells
    have g0 := Rt.row_frozen hD.pa 0
    have g1 := Rt.row_frozen hD.pa 1
    have g2 := Rt.row_frozen hD.pa 2
    have g3 := Rt.row_frozen hD.pa 3
    have g4 := Rt.row_frozen hD.pa 4
    have g5 := Rt.row_frozen hD.pa 5
    go_upto_region 11 with (fail)
    have hE : CL w ((u2.setCell ⟨P, 4, none⟩ (.int .i64 x2.2.bas)).setCell ⟨P, 5, none⟩ (.int .i64 x2.2.stp)) K Y P x1.2 x0.2 x1.2 x2.2 := ⟨two_other hD.re hD.ne _ _ _ _, two_other hD.ky (block_ne hD.ky hD.pa (by decide)) _ _ _ _, hD.pa.set2 x2.2, two_bel hD.bel hD.gP _ _ _ _, hD.gK, hD.gY, hD.gP, hD.ne⟩
    have hF2 : KyAt ((u2.setCell ⟨P, 4, none⟩ (.int .i64 x2.2.bas)).setCell ⟨P, 5, none⟩ (.int .i64 x2.2.stp)) F2 x2.2 := two_other hF hFP _ _ _ _
    clear hD hF hFP a0 a1 a2 a3 a4 a5 f0 f1 g0 g1 g2 g3 g4 g5
    generalize ((u2.setCell ⟨P, 4, none⟩ (.int .i64 x2.2.bas)).setCell ⟨P, 5, none⟩ (.int .i64 x2.2.stp)) = t2 at *
    have hS0 : KyAt t2.drew F2 x2.2 := hF2.later (drew_below _)
    have hE0 := hE.later (drew_below t2)
    have HE0 : Hid _ := hE0
    have HFY : Hid (F2 ≠ Y) := hFY
    clear hE hF2 hFY
    refine wp_region_held_drew (S := fun W => KyAt W F2 x2.2) (by kernel_rfl) hS0 (fun hHeld => ?_)
    clear hS0
    obtain ⟨y0, y1⟩ := HE0.out.ky.cells
    have q0 := Rt.row_frozen HE0.out.ky 0
    have q1 := Rt.row_frozen HE0.out.ky 1
    clear hE0
    generalize t2.drew = td2 at *
    refine wpAnyH_take (i := 0) (oi := { dst := some 46, op := Op.move (Operand.tmp 14), type := _, pos := _, after := _, guard := none }) (v := .int .i64 n2) rfl (by kernel_rfl) (by kernel_rfl) (by kernel_rfl) (fun _ _ _ h => h) (Or.inl ⟨by rfl, fun w hSw => by (try dsimp only at hSw); go_simp⟩) (by assumption) ?_
    simp only [Act.put, List.setIfInBounds_toArray, List.set_cons_zero, List.set_cons_succ]
    refine wpAnyH_take (i := 1) (oi := { dst := some 47, op := Op.load 23 (Operand.tmp 15), type := _, pos := _, after := _, guard := none }) (v := .agg #[.int .i64 x2.2.bas, .int .i64 x2.2.stp]) rfl (by kernel_rfl) (by kernel_rfl) (by kernel_rfl) (fun _ _ _ h => h) (Or.inl ⟨by rfl, fun w hSw => by obtain ⟨c0, c1⟩ := hSw.cells; clear hSw y0 y1 q0 q1; go_simp⟩) (by assumption) ?_
    simp only [Act.put, List.setIfInBounds_toArray, List.set_cons_zero, List.set_cons_succ]
    refine wpAnyH_take (i := 2) (oi := { dst := some 10, op := Op.assign (Operand.tmp 46), type := _, pos := _, after := _, guard := none }) (v := .int .i64 n2) rfl (by kernel_rfl) (by kernel_rfl) (by kernel_rfl) (fun _ _ _ h => h) (Or.inl ⟨by rfl, fun w hSw => by (try dsimp only at hSw); go_simp⟩) (by assumption) ?_
    simp only [Act.put, List.setIfInBounds_toArray, List.set_cons_zero, List.set_cons_succ]
    refine wpAnyH_ready (rs := [3]) (by kernel_rfl) (by simp) ?_
    refine AllReadyH.cons rfl (fun K hK => ?_) AllReadyH.nil
    go_simp
    refine hK.out _ _ (two_other hHeld HFY.out _ _ _ _) (fun hHeld2 => ?_)
    clear hHeld
    clear hK K
    try simp only [Act.put, List.setIfInBounds_toArray, List.set_cons_zero, List.set_cons_succ]
    refine wpAnyH_done (by kernel_rfl) ?_ _
    clear y0 y1 q0 q1 hHeld2
    have hC3 : CL w ((td2.setCell ⟨Y, 0, none⟩ (.int .i64 x2.2.bas)).setCell ⟨Y, 1, none⟩ (.int .i64 x2.2.stp)) K Y P x2.2 x0.2 x1.2 x2.2 := ⟨two_other HE0.out.re (block_ne HE0.out.re HE0.out.ky (by decide)) _ _ _ _, KyAt.set HE0.out.ky x2.2.bas x2.2.stp, two_other HE0.out.pa (block_ne HE0.out.pa HE0.out.ky (by decide)) _ _ _ _, two_bel HE0.out.bel HE0.out.gY _ _ _ _, HE0.out.gK, HE0.out.gY, HE0.out.gP, HE0.out.ne⟩
    clear HE0 HFY
    generalize ((td2.setCell ⟨Y, 0, none⟩ (.int .i64 x2.2.bas)).setCell ⟨Y, 1, none⟩ (.int .i64 x2.2.stp)) = s2 at *
    have z2 := HZ2.out
    clear HZ2
    go_wp2_with fail
    rw [rounds_succ]
    have HA : Hid _ := CliA.yes (cl_3 (x := x0) (y := x1) (z := x2) z0 z1 z2)
    have hre := hC3.re
    clear z0 z1 z2 H0 H1 H2
    go_wp2_with (first | (refine ldPt hC3.pa _ rfl rfl rfl ?_) | (refine stPa hre x0.2 x1.2 x2.2 rfl _ _ rfl rfl rfl ?_))
    refine bodyPost_ret (resRow (p := 6) (t := 7) rfl _ _ K (pal x0.2 x1.2 x2.2).toArray rfl (hre.row x0.2 x1.2 x2.2).var) rfl ?_
    exact ⟨HA.out, Rt.setRow_below hC3.gK hC3.bel _⟩
set_option maxRecDepth 100000 in
set_option maxHeartbeats 4000000 in
theorem climb_follow (s : Int) (hs0 : 0 ≤ s) (hs1 : s < 64) (k : Ky) (x0 x1 x2 : Int × Ky) (w : World) (X D B : Nat)
    (h0 : ∀ W, Below w.heap.size w W → Calls Try.prog 78 #[.int .i64 0, .int .i64 (nd s 0), .int .i64 (21 + s), .agg #[.int .i64 k.bas, .int .i64 k.stp], .pointer (some ⟨X, 0, none⟩), .pointer (some ⟨D, 0, none⟩), .pointer (some ⟨B, 0, none⟩)] W fun e w' => e = KyR x0 ∧ Below W.heap.size W w')
    (h1 : x0.1 = 0 → ∀ W, Below w.heap.size w W → Calls Try.prog 78 #[.int .i64 1, .int .i64 (nd s 1), .int .i64 (nd s 0), .agg #[.int .i64 x0.2.bas, .int .i64 x0.2.stp], .pointer (some ⟨X, 0, none⟩), .pointer (some ⟨D, 0, none⟩), .pointer (some ⟨B, 0, none⟩)] W fun e w' => e = KyR x1 ∧ Below W.heap.size W w')
    (h2 : x0.1 = 0 → x1.1 = 0 → ∀ W, Below w.heap.size w W → Calls Try.prog 78 #[.int .i64 2, .int .i64 (nd s 2), .int .i64 (nd s 1), .agg #[.int .i64 x1.2.bas, .int .i64 x1.2.stp], .pointer (some ⟨X, 0, none⟩), .pointer (some ⟨D, 0, none⟩), .pointer (some ⟨B, 0, none⟩)] W fun e w' => e = KyR x2 ∧ Below W.heap.size W w') :
    Calls Try.prog 43 #[.int .i64 s, .agg #[.int .i64 k.bas, .int .i64 k.stp], .func (.func 78) #[] #[.pointer (some ⟨X, 0, none⟩), .pointer (some ⟨D, 0, none⟩), .pointer (some ⟨B, 0, none⟩)] ] w fun e w' => e = CliA x0 x1 x2 ∧ Below w.heap.size w w' := by
  have hP := path_nd s hs0 hs1
  have hl := Sh.leaf_any s
  rw [Sh.lef_yes hs0 hs1] at hl
  have hS := C0.new w k
  generalize nd s 0 = n0 at *
  generalize nd s 1 = n1 at *
  generalize nd s 2 = n2 at *
  generalize 21 + s = q at *
  unfold KyR at h0 h1 h2
  have jx0 := jx0
  have jx1 := jx1
  have jx2 := jx2
  have H0 : Hid _ := h0
  have H1 : Hid _ := h1
  have H2 : Hid _ := h2
  clear h0 h1 h2 hs0 hs1
  go_enter Try.func43, Try.ntmps43
  go_upto_region 1 with (fail)
  rw [pz_eq]
  generalize (w.alloc (.cells #[.int .i64 k.bas, .int .i64 k.stp] 23)).alloc (.cells (pal zK zK zK).toArray 47) = w1 at *
  obtain ⟨K, hK⟩ : ∃ K, w.heap.size + 1 = K := ⟨_, rfl⟩
  obtain ⟨A, hA⟩ : ∃ A, w.heap.size = A := ⟨_, rfl⟩
  rw [hK, hA] at hS ⊢
  clear hK hA
  go_wp2_with fail
  refine (hP _).mono ?_
  rintro e w2 ⟨rfl, hb2⟩
  have hS3 := (hS.later hb2).later (below_alloc w2 (.cells #[.int .i64 n0, .int .i64 n1, .int .i64 n2] 99))
  have hN3 : (w2.alloc (.cells #[.int .i64 n0, .int .i64 n1, .int .i64 n2] 99)).heap[w2.heap.size]? = some (.cells #[.int .i64 n0, .int .i64 n1, .int .i64 n2] 99 (0, 0)) := heap_alloc_last w2 _
  clear hS hb2 hP
  go_upto_region 2 with (fail)
  generalize w2.alloc (.cells #[.int .i64 n0, .int .i64 n1, .int .i64 n2] 99) = w3 at *
  generalize w2.heap.size = N at *
  go_cut [10, 11] (fun s10 s11 wx => ∃ Y, s10 = .int .i64 q ∧ s11 = .pointer (some ⟨Y, 0, none⟩) ∧ C0 w wx A K k ∧ wx.heap[N]? = some (.cells #[.int .i64 n0, .int .i64 n1, .int .i64 n2] 99 (0, 0)) ∧ KyAt wx Y k ∧ w.heap.size ≤ Y)
  case first =>
    have hS0 : Below w3.heap.size w3 w3.drew := drew_below _
    have hG : w.heap.size ≤ w3.drew.heap.size := hS3.bel.size
    refine wp_region_held_drew (S := fun W => Below w3.heap.size w3 W) (by kernel_rfl) hS0 (fun hHeld => ?_)
    clear hS0
    have HPRE : Hid (Below w3.heap.size w3 w3.drew) := hHeld
    generalize w3.drew = wd at *
    have HS3 : Hid (C0 w w3 A K k) := hS3
    have HN3 : Hid (w3.heap[N]? = some (.cells #[.int .i64 n0, .int .i64 n1, .int .i64 n2] 99 (0, 0))) := hN3
    have HG : Hid (w.heap.size ≤ wd.heap.size) := hG
    clear hS3 hN3 hG
    refine wpAnyH_take (i := 0) (oi := { dst := some 22, op := Op.move (Operand.tmp 0), type := _, pos := _, after := _, guard := none }) (v := .int .i64 s) rfl (by kernel_rfl) (by kernel_rfl) (by kernel_rfl) (fun _ _ _ h => h) (Or.inl ⟨by rfl, fun w hSw => by (try dsimp only at hSw); go_simp⟩) (by assumption) ?_
    simp only [Act.put, List.setIfInBounds_toArray, List.set_cons_zero, List.set_cons_succ]
    refine wpAnyH_take (i := 2) (oi := { dst := some 24, op := Op.load 23 (Operand.tmp 4), type := _, pos := _, after := _, guard := none }) (v := .agg #[.int .i64 k.bas, .int .i64 k.stp]) rfl (by kernel_rfl) (by kernel_rfl) (by kernel_rfl) (fun _ _ _ h => h) (Or.inl ⟨by rfl, fun w hSw => by obtain ⟨c0, c1⟩ := (HS3.out.ky.later hSw).cells; clear hSw; go_simp⟩) (by assumption) ?_
    simp only [Act.put, List.setIfInBounds_toArray, List.set_cons_zero, List.set_cons_succ]
    refine wpAnyH_ready (rs := [1, 3]) (by kernel_rfl) (by simp) ?_
    refine (AllReadyH.cons rfl (fun K hK => ?_) (AllReadyH.cons rfl (fun K hK => ?_) AllReadyH.nil))
    · go_simp
      refine (hl _).mono ?_
      first | (rintro e wd ⟨rfl, rfl⟩) | (rintro e wz ⟨rfl, rfl⟩)
      go_wp2_with fail
      refine hK.out _ _ hHeld (fun hHd1 => ?_)
      clear hHeld
      clear hK K
      try simp only [Act.put, List.setIfInBounds_toArray, List.set_cons_zero, List.set_cons_succ]
      refine wpAnyH_ready (rs := [3]) (by kernel_rfl) (by simp) ?_
      refine AllReadyH.cons rfl (fun K hK => ?_) AllReadyH.nil
      go_simp
      refine hK.out _ _ (HPRE.out.trans ((below_alloc _ _).mono HPRE.out.size)) (fun hHd2 => ?_)
      clear hHd1
      clear hK K
      try simp only [Act.put, List.setIfInBounds_toArray, List.set_cons_zero, List.set_cons_succ]
      refine wpAnyH_take (i := 4) (oi := { dst := some 10, op := Op.assign (Operand.tmp 23), type := _, pos := _, after := _, guard := none }) (v := .int .i64 q) rfl (by kernel_rfl) (by kernel_rfl) (by kernel_rfl) (fun _ _ _ h => h) (Or.inl ⟨by rfl, fun w hSw => by (try dsimp only at hSw); go_simp⟩) (by assumption) ?_
      simp only [Act.put, List.setIfInBounds_toArray, List.set_cons_zero, List.set_cons_succ]
      refine wpAnyH_ready (rs := [5]) (by kernel_rfl) (by simp) ?_
      refine AllReadyH.cons rfl (fun K hK => ?_) AllReadyH.nil
      go_simp
      refine hK.out _ _ (HPRE.out.trans ((below_alloc _ _).mono HPRE.out.size)) (fun hHd3 => ?_)
      clear hHd2
      clear hK K
      try simp only [Act.put, List.setIfInBounds_toArray, List.set_cons_zero, List.set_cons_succ]
      refine wpAnyH_done (by kernel_rfl) ?_ _
      go_wp2_with fail
      go_meet
      case rel => exact ⟨_, rfl, rfl, HS3.out.later hHd3, row_later HN3.out hHd3, KyAt.new wd k, HG.out⟩
    · go_simp
      refine hK.out _ _ (HPRE.out.trans ((below_alloc _ _).mono HPRE.out.size)) (fun hHd1 => ?_)
      clear hHeld
      clear hK K
      try simp only [Act.put, List.setIfInBounds_toArray, List.set_cons_zero, List.set_cons_succ]
      refine wpAnyH_ready (rs := [1]) (by kernel_rfl) (by simp) ?_
      refine AllReadyH.cons rfl (fun K hK => ?_) AllReadyH.nil
      go_simp
      refine (hl _).mono ?_
      first | (rintro e wd ⟨rfl, rfl⟩) | (rintro e wz ⟨rfl, rfl⟩)
      go_wp2_with fail
      refine hK.out _ _ hHd1 (fun hHd2 => ?_)
      clear hHd1
      clear hK K
      try simp only [Act.put, List.setIfInBounds_toArray, List.set_cons_zero, List.set_cons_succ]
      refine wpAnyH_take (i := 4) (oi := { dst := some 10, op := Op.assign (Operand.tmp 23), type := _, pos := _, after := _, guard := none }) (v := .int .i64 q) rfl (by kernel_rfl) (by kernel_rfl) (by kernel_rfl) (fun _ _ _ h => h) (Or.inl ⟨by rfl, fun w hSw => by (try dsimp only at hSw); go_simp⟩) (by assumption) ?_
      simp only [Act.put, List.setIfInBounds_toArray, List.set_cons_zero, List.set_cons_succ]
      refine wpAnyH_ready (rs := [5]) (by kernel_rfl) (by simp) ?_
      refine AllReadyH.cons rfl (fun K hK => ?_) AllReadyH.nil
      go_simp
      refine hK.out _ _ (HPRE.out.trans ((below_alloc _ _).mono HPRE.out.size)) (fun hHd3 => ?_)
      clear hHd2
      clear hK K
      try simp only [Act.put, List.setIfInBounds_toArray, List.set_cons_zero, List.set_cons_succ]
      refine wpAnyH_done (by kernel_rfl) ?_ _
      go_wp2_with fail
      go_meet
      case rel => exact ⟨_, rfl, rfl, HS3.out.later hHd3, row_later HN3.out hHd3, KyAt.new wd k, HG.out⟩
  case rest =>
    obtain ⟨Y, rfl, rfl, hS4, hN4, hY4, gY⟩ := hcut
    clear hS3 hN3 hl
    have m0 := cell_of_row wc N 0 _ _ _ hN4
    have m1 := cell_of_row wc N 1 _ _ _ hN4
    have m2 := cell_of_row wc N 2 _ _ _ hN4
    have hC0 : CL w (wc.alloc (.cells (pal zK zK zK).toArray 47)) K Y wc.heap.size k zK zK zK := ⟨hS4.re.later (below_alloc _ _), hY4.later (below_alloc _ _), heap_alloc_last wc _, Wi.Below.plus hS4.bel _, hS4.ge, gY, hS4.bel.size, Nat.ne_of_lt (Array.getElem?_eq_some_iff.1 hS4.re).1⟩
    clear hS4 hY4 gY hN4
    go_upto_region 4 with (fail)
    rw [pz_eq]
    have m0 : (wc.alloc (.cells (pal zK zK zK).toArray 47)).cell? ⟨N, 0, none⟩ = _ := Rs.cell_later (below_alloc _ _) m0
    have m1 : (wc.alloc (.cells (pal zK zK zK).toArray 47)).cell? ⟨N, 1, none⟩ = _ := Rs.cell_later (below_alloc _ _) m1
    have m2 : (wc.alloc (.cells (pal zK zK zK).toArray 47)).cell? ⟨N, 2, none⟩ = _ := Rs.cell_later (below_alloc _ _) m2
    generalize wc.alloc (.cells (pal zK zK zK).toArray 47) = wp at *
    generalize wc.heap.size = P at *
    go_wp2_with fail
    refine wp_loop_rounds 4 ?_
    clear m0 m1 m2
    /- round 0 -/
    rw [rounds_succ]
    have hY0 := hC0.ky.cells
    obtain ⟨y0, y1⟩ := hY0
    go_wp2_with fail
    refine (H0.out _ hC0.bel).mono ?_
    rintro e v0 ⟨rfl, hb⟩
    have hD := (hC0.later hb).later (below_alloc v0 (.cells #[.int .i64 x0.2.bas, .int .i64 x0.2.stp] 23))
    have hF : KyAt (v0.alloc (.cells #[.int .i64 x0.2.bas, .int .i64 x0.2.stp] 23)) v0.heap.size x0.2 := KyAt.new v0 x0.2
    have hFY : v0.heap.size ≠ Y := Nat.ne_of_gt (hC0.later hb).ky.lt
    have hFP : v0.heap.size ≠ P := Nat.ne_of_gt (Array.getElem?_eq_some_iff.1 (hC0.later hb).pa).1
    clear hC0 hb y0 y1
    go_upto_region 8 with (fail)
    generalize v0.alloc (.cells #[.int .i64 x0.2.bas, .int .i64 x0.2.stp] 23) = u0 at *
    generalize v0.heap.size = F0 at *
    have hre := hD.re
    rcases Decidable.em (x0.1 = 0) with z0 | z0
    rotate_left
    · have dz : (x0.1 != 0) = true := by simpa using z0
      have HA : Hid _ := CliA.no (cl_1 (x := x0) (y := x1) (z := x2) rfl z0) z0
      obtain ⟨e, he⟩ : ∃ e, x0.1 = e := ⟨_, rfl⟩
      rw [he] at dz HA ⊢
      clear he z0
      go_wp2_with (refine stPa hre zK zK zK rfl _ _ rfl rfl rfl ?_)
      refine bodyPost_ret (resRow (p := 6) (t := 7) rfl _ _ K (pal zK zK zK).toArray rfl (hre.row zK zK zK).var) rfl ?_
      exact ⟨HA.out, Rt.setRow_below hD.gK hD.bel _⟩
    have HZ0 : Hid (x0.1 = 0) := z0
    rw [z0]
    clear z0 hre
    obtain ⟨⟨a0, a1⟩, ⟨a2, a3⟩, a4, a5⟩ := hD.pa.cells
    obtain ⟨f0, f1⟩ := hF.cells
    have g0 := Rt.row_frozen hD.pa 0
    have g1 := Rt.row_frozen hD.pa 1
    have g2 := Rt.row_frozen hD.pa 2
    have g3 := Rt.row_frozen hD.pa 3
    have g4 := Rt.row_frozen hD.pa 4
    have g5 := Rt.row_frozen hD.pa 5
    go_upto_region 11 with (fail)
    have hE : CL w ((u0.setCell ⟨P, 0, none⟩ (.int .i64 x0.2.bas)).setCell ⟨P, 1, none⟩ (.int .i64 x0.2.stp)) K Y P k x0.2 zK zK := ⟨two_other hD.re hD.ne _ _ _ _, two_other hD.ky (block_ne hD.ky hD.pa (by decide)) _ _ _ _, hD.pa.set0 x0.2, two_bel hD.bel hD.gP _ _ _ _, hD.gK, hD.gY, hD.gP, hD.ne⟩
    have hF2 : KyAt ((u0.setCell ⟨P, 0, none⟩ (.int .i64 x0.2.bas)).setCell ⟨P, 1, none⟩ (.int .i64 x0.2.stp)) F0 x0.2 := two_other hF hFP _ _ _ _
    clear hD hF hFP a0 a1 a2 a3 a4 a5 f0 f1 g0 g1 g2 g3 g4 g5
    generalize ((u0.setCell ⟨P, 0, none⟩ (.int .i64 x0.2.bas)).setCell ⟨P, 1, none⟩ (.int .i64 x0.2.stp)) = t0 at *
    have hS0 : KyAt t0.drew F0 x0.2 := hF2.later (drew_below _)
    have hE0 := hE.later (drew_below t0)
    have HE0 : Hid _ := hE0
    have HFY : Hid (F0 ≠ Y) := hFY
    clear hE hF2 hFY
    refine wp_region_held_drew (S := fun W => KyAt W F0 x0.2) (by kernel_rfl) hS0 (fun hHeld => ?_)
    clear hS0
    obtain ⟨y0, y1⟩ := HE0.out.ky.cells
    have q0 := Rt.row_frozen HE0.out.ky 0
    have q1 := Rt.row_frozen HE0.out.ky 1
    clear hE0
    generalize t0.drew = td0 at *
    refine wpAnyH_take (i := 0) (oi := { dst := some 46, op := Op.move (Operand.tmp 14), type := _, pos := _, after := _, guard := none }) (v := .int .i64 n0) rfl (by kernel_rfl) (by kernel_rfl) (by kernel_rfl) (fun _ _ _ h => h) (Or.inl ⟨by rfl, fun w hSw => by (try dsimp only at hSw); go_simp⟩) (by assumption) ?_
    simp only [Act.put, List.setIfInBounds_toArray, List.set_cons_zero, List.set_cons_succ]
    refine wpAnyH_take (i := 1) (oi := { dst := some 47, op := Op.load 23 (Operand.tmp 15), type := _, pos := _, after := _, guard := none }) (v := .agg #[.int .i64 x0.2.bas, .int .i64 x0.2.stp]) rfl (by kernel_rfl) (by kernel_rfl) (by kernel_rfl) (fun _ _ _ h => h) (Or.inl ⟨by rfl, fun w hSw => by obtain ⟨c0, c1⟩ := hSw.cells; clear hSw y0 y1 q0 q1; go_simp⟩) (by assumption) ?_
    simp only [Act.put, List.setIfInBounds_toArray, List.set_cons_zero, List.set_cons_succ]
    refine wpAnyH_take (i := 2) (oi := { dst := some 10, op := Op.assign (Operand.tmp 46), type := _, pos := _, after := _, guard := none }) (v := .int .i64 n0) rfl (by kernel_rfl) (by kernel_rfl) (by kernel_rfl) (fun _ _ _ h => h) (Or.inl ⟨by rfl, fun w hSw => by (try dsimp only at hSw); go_simp⟩) (by assumption) ?_
    simp only [Act.put, List.setIfInBounds_toArray, List.set_cons_zero, List.set_cons_succ]
    refine wpAnyH_ready (rs := [3]) (by kernel_rfl) (by simp) ?_
    refine AllReadyH.cons rfl (fun K hK => ?_) AllReadyH.nil
    go_simp
    refine hK.out _ _ (two_other hHeld HFY.out _ _ _ _) (fun hHeld2 => ?_)
    clear hHeld
    clear hK K
    try simp only [Act.put, List.setIfInBounds_toArray, List.set_cons_zero, List.set_cons_succ]
    refine wpAnyH_done (by kernel_rfl) ?_ _
    clear y0 y1 q0 q1 hHeld2
    have hC1 : CL w ((td0.setCell ⟨Y, 0, none⟩ (.int .i64 x0.2.bas)).setCell ⟨Y, 1, none⟩ (.int .i64 x0.2.stp)) K Y P x0.2 x0.2 zK zK := ⟨two_other HE0.out.re (block_ne HE0.out.re HE0.out.ky (by decide)) _ _ _ _, KyAt.set HE0.out.ky x0.2.bas x0.2.stp, two_other HE0.out.pa (block_ne HE0.out.pa HE0.out.ky (by decide)) _ _ _ _, two_bel HE0.out.bel HE0.out.gY _ _ _ _, HE0.out.gK, HE0.out.gY, HE0.out.gP, HE0.out.ne⟩
    clear HE0 HFY
    generalize ((td0.setCell ⟨Y, 0, none⟩ (.int .i64 x0.2.bas)).setCell ⟨Y, 1, none⟩ (.int .i64 x0.2.stp)) = s0 at *
    have z0 := HZ0.out
    clear HZ0
    go_wp2_with fail
    /- round 1 -/
    rw [rounds_succ]
    have hY1 := hC1.ky.cells
    obtain ⟨y0, y1⟩ := hY1
    go_wp2_with fail
    refine (H1.out z0 _ hC1.bel).mono ?_
    rintro e v1 ⟨rfl, hb⟩
    have hD := (hC1.later hb).later (below_alloc v1 (.cells #[.int .i64 x1.2.bas, .int .i64 x1.2.stp] 23))
    have hF : KyAt (v1.alloc (.cells #[.int .i64 x1.2.bas, .int .i64 x1.2.stp] 23)) v1.heap.size x1.2 := KyAt.new v1 x1.2
    have hFY : v1.heap.size ≠ Y := Nat.ne_of_gt (hC1.later hb).ky.lt
    have hFP : v1.heap.size ≠ P := Nat.ne_of_gt (Array.getElem?_eq_some_iff.1 (hC1.later hb).pa).1
    clear hC1 hb y0 y1
    go_upto_region 8 with (fail)
    generalize v1.alloc (.cells #[.int .i64 x1.2.bas, .int .i64 x1.2.stp] 23) = u1 at *
    generalize v1.heap.size = F1 at *
    have hre := hD.re
    rcases Decidable.em (x1.1 = 0) with z1 | z1
    rotate_left
    · have dz : (x1.1 != 0) = true := by simpa using z1
      have HA : Hid _ := CliA.no (cl_2 (x := x0) (y := x1) (z := x2) z0 rfl z1) z1
      obtain ⟨e, he⟩ : ∃ e, x1.1 = e := ⟨_, rfl⟩
      rw [he] at dz HA ⊢
      clear he z1
      go_wp2_with (refine stPa hre zK zK zK rfl _ _ rfl rfl rfl ?_)
      refine bodyPost_ret (resRow (p := 6) (t := 7) rfl _ _ K (pal zK zK zK).toArray rfl (hre.row zK zK zK).var) rfl ?_
      exact ⟨HA.out, Rt.setRow_below hD.gK hD.bel _⟩
    have HZ1 : Hid (x1.1 = 0) := z1
    rw [z1]
    clear z1 hre
    obtain ⟨⟨a0, a1⟩, ⟨a2, a3⟩, a4, a5⟩ := hD.pa.cells
    obtain ⟨f0, f1⟩ := hF.cells
    have g0 := Rt.row_frozen hD.pa 0
    have g1 := Rt.row_frozen hD.pa 1
    have g2 := Rt.row_frozen hD.pa 2
    have g3 := Rt.row_frozen hD.pa 3
    have g4 := Rt.row_frozen hD.pa 4
    have g5 := Rt.row_frozen hD.pa 5
    go_upto_region 11 with (fail)
    have hE : CL w ((u1.setCell ⟨P, 2, none⟩ (.int .i64 x1.2.bas)).setCell ⟨P, 3, none⟩ (.int .i64 x1.2.stp)) K Y P x0.2 x0.2 x1.2 zK := ⟨two_other hD.re hD.ne _ _ _ _, two_other hD.ky (block_ne hD.ky hD.pa (by decide)) _ _ _ _, hD.pa.set1 x1.2, two_bel hD.bel hD.gP _ _ _ _, hD.gK, hD.gY, hD.gP, hD.ne⟩
    have hF2 : KyAt ((u1.setCell ⟨P, 2, none⟩ (.int .i64 x1.2.bas)).setCell ⟨P, 3, none⟩ (.int .i64 x1.2.stp)) F1 x1.2 := two_other hF hFP _ _ _ _
    clear hD hF hFP a0 a1 a2 a3 a4 a5 f0 f1 g0 g1 g2 g3 g4 g5
    generalize ((u1.setCell ⟨P, 2, none⟩ (.int .i64 x1.2.bas)).setCell ⟨P, 3, none⟩ (.int .i64 x1.2.stp)) = t1 at *
    have hS0 : KyAt t1.drew F1 x1.2 := hF2.later (drew_below _)
    have hE0 := hE.later (drew_below t1)
    have HE0 : Hid _ := hE0
    have HFY : Hid (F1 ≠ Y) := hFY
    clear hE hF2 hFY
    refine wp_region_held_drew (S := fun W => KyAt W F1 x1.2) (by kernel_rfl) hS0 (fun hHeld => ?_)
    clear hS0
    obtain ⟨y0, y1⟩ := HE0.out.ky.cells
    have q0 := Rt.row_frozen HE0.out.ky 0
    have q1 := Rt.row_frozen HE0.out.ky 1
    clear hE0
    generalize t1.drew = td1 at *
    refine wpAnyH_take (i := 0) (oi := { dst := some 46, op := Op.move (Operand.tmp 14), type := _, pos := _, after := _, guard := none }) (v := .int .i64 n1) rfl (by kernel_rfl) (by kernel_rfl) (by kernel_rfl) (fun _ _ _ h => h) (Or.inl ⟨by rfl, fun w hSw => by (try dsimp only at hSw); go_simp⟩) (by assumption) ?_
    simp only [Act.put, List.setIfInBounds_toArray, List.set_cons_zero, List.set_cons_succ]
    refine wpAnyH_take (i := 1) (oi := { dst := some 47, op := Op.load 23 (Operand.tmp 15), type := _, pos := _, after := _, guard := none }) (v := .agg #[.int .i64 x1.2.bas, .int .i64 x1.2.stp]) rfl (by kernel_rfl) (by kernel_rfl) (by kernel_rfl) (fun _ _ _ h => h) (Or.inl ⟨by rfl, fun w hSw => by obtain ⟨c0, c1⟩ := hSw.cells; clear hSw y0 y1 q0 q1; go_simp⟩) (by assumption) ?_
    simp only [Act.put, List.setIfInBounds_toArray, List.set_cons_zero, List.set_cons_succ]
    refine wpAnyH_take (i := 2) (oi := { dst := some 10, op := Op.assign (Operand.tmp 46), type := _, pos := _, after := _, guard := none }) (v := .int .i64 n1) rfl (by kernel_rfl) (by kernel_rfl) (by kernel_rfl) (fun _ _ _ h => h) (Or.inl ⟨by rfl, fun w hSw => by (try dsimp only at hSw); go_simp⟩) (by assumption) ?_
    simp only [Act.put, List.setIfInBounds_toArray, List.set_cons_zero, List.set_cons_succ]
    refine wpAnyH_ready (rs := [3]) (by kernel_rfl) (by simp) ?_
    refine AllReadyH.cons rfl (fun K hK => ?_) AllReadyH.nil
    go_simp
    refine hK.out _ _ (two_other hHeld HFY.out _ _ _ _) (fun hHeld2 => ?_)
    clear hHeld
    clear hK K
    try simp only [Act.put, List.setIfInBounds_toArray, List.set_cons_zero, List.set_cons_succ]
    refine wpAnyH_done (by kernel_rfl) ?_ _
    clear y0 y1 q0 q1 hHeld2
    have hC2 : CL w ((td1.setCell ⟨Y, 0, none⟩ (.int .i64 x1.2.bas)).setCell ⟨Y, 1, none⟩ (.int .i64 x1.2.stp)) K Y P x1.2 x0.2 x1.2 zK := ⟨two_other HE0.out.re (block_ne HE0.out.re HE0.out.ky (by decide)) _ _ _ _, KyAt.set HE0.out.ky x1.2.bas x1.2.stp, two_other HE0.out.pa (block_ne HE0.out.pa HE0.out.ky (by decide)) _ _ _ _, two_bel HE0.out.bel HE0.out.gY _ _ _ _, HE0.out.gK, HE0.out.gY, HE0.out.gP, HE0.out.ne⟩
    clear HE0 HFY
    generalize ((td1.setCell ⟨Y, 0, none⟩ (.int .i64 x1.2.bas)).setCell ⟨Y, 1, none⟩ (.int .i64 x1.2.stp)) = s1 at *
    have z1 := HZ1.out
    clear HZ1
    go_wp2_with fail
    /- round 2 -/
    rw [rounds_succ]
    have hY2 := hC2.ky.cells
    obtain ⟨y0, y1⟩ := hY2
    go_wp2_with fail
    refine (H2.out z0 z1 _ hC2.bel).mono ?_
    rintro e v2 ⟨rfl, hb⟩
    have hD := (hC2.later hb).later (below_alloc v2 (.cells #[.int .i64 x2.2.bas, .int .i64 x2.2.stp] 23))
    have hF : KyAt (v2.alloc (.cells #[.int .i64 x2.2.bas, .int .i64 x2.2.stp] 23)) v2.heap.size x2.2 := KyAt.new v2 x2.2
    have hFY : v2.heap.size ≠ Y := Nat.ne_of_gt (hC2.later hb).ky.lt
    have hFP : v2.heap.size ≠ P := Nat.ne_of_gt (Array.getElem?_eq_some_iff.1 (hC2.later hb).pa).1
    clear hC2 hb y0 y1
    go_upto_region 8 with (fail)
    generalize v2.alloc (.cells #[.int .i64 x2.2.bas, .int .i64 x2.2.stp] 23) = u2 at *
    generalize v2.heap.size = F2 at *
    have hre := hD.re
    rcases Decidable.em (x2.1 = 0) with z2 | z2
    rotate_left
    · have dz : (x2.1 != 0) = true := by simpa using z2
      have HA : Hid _ := CliA.no (cl_3 (x := x0) (y := x1) (z := x2) z0 z1 rfl) z2
      obtain ⟨e, he⟩ : ∃ e, x2.1 = e := ⟨_, rfl⟩
      rw [he] at dz HA ⊢
      clear he z2
      go_wp2_with (refine stPa hre zK zK zK rfl _ _ rfl rfl rfl ?_)
      refine bodyPost_ret (resRow (p := 6) (t := 7) rfl _ _ K (pal zK zK zK).toArray rfl (hre.row zK zK zK).var) rfl ?_
      exact ⟨HA.out, Rt.setRow_below hD.gK hD.bel _⟩
    have HZ2 : Hid (x2.1 = 0) := z2
    rw [z2]
    clear z2 hre
    obtain ⟨⟨a0, a1⟩, ⟨a2, a3⟩, a4, a5⟩ := hD.pa.cells
    obtain ⟨f0, f1⟩ := hF.cells
    have g0 := Rt.row_frozen hD.pa 0
    have g1 := Rt.row_frozen hD.pa 1
    have g2 := Rt.row_frozen hD.pa 2
    have g3 := Rt.row_frozen hD.pa 3
    have g4 := Rt.row_frozen hD.pa 4
    have g5 := Rt.row_frozen hD.pa 5
    go_upto_region 11 with (fail)
    have hE : CL w ((u2.setCell ⟨P, 4, none⟩ (.int .i64 x2.2.bas)).setCell ⟨P, 5, none⟩ (.int .i64 x2.2.stp)) K Y P x1.2 x0.2 x1.2 x2.2 := ⟨two_other hD.re hD.ne _ _ _ _, two_other hD.ky (block_ne hD.ky hD.pa (by decide)) _ _ _ _, hD.pa.set2 x2.2, two_bel hD.bel hD.gP _ _ _ _, hD.gK, hD.gY, hD.gP, hD.ne⟩
    have hF2 : KyAt ((u2.setCell ⟨P, 4, none⟩ (.int .i64 x2.2.bas)).setCell ⟨P, 5, none⟩ (.int .i64 x2.2.stp)) F2 x2.2 := two_other hF hFP _ _ _ _
    clear hD hF hFP a0 a1 a2 a3 a4 a5 f0 f1 g0 g1 g2 g3 g4 g5
    generalize ((u2.setCell ⟨P, 4, none⟩ (.int .i64 x2.2.bas)).setCell ⟨P, 5, none⟩ (.int .i64 x2.2.stp)) = t2 at *
    have hS0 : KyAt t2.drew F2 x2.2 := hF2.later (drew_below _)
    have hE0 := hE.later (drew_below t2)
    have HE0 : Hid _ := hE0
    have HFY : Hid (F2 ≠ Y) := hFY
    clear hE hF2 hFY
    refine wp_region_held_drew (S := fun W => KyAt W F2 x2.2) (by kernel_rfl) hS0 (fun hHeld => ?_)
    clear hS0
    obtain ⟨y0, y1⟩ := HE0.out.ky.cells
    have q0 := Rt.row_frozen HE0.out.ky 0
    have q1 := Rt.row_frozen HE0.out.ky 1
    clear hE0
    generalize t2.drew = td2 at *
    refine wpAnyH_take (i := 0) (oi := { dst := some 46, op := Op.move (Operand.tmp 14), type := _, pos := _, after := _, guard := none }) (v := .int .i64 n2) rfl (by kernel_rfl) (by kernel_rfl) (by kernel_rfl) (fun _ _ _ h => h) (Or.inl ⟨by rfl, fun w hSw => by (try dsimp only at hSw); go_simp⟩) (by assumption) ?_
    simp only [Act.put, List.setIfInBounds_toArray, List.set_cons_zero, List.set_cons_succ]
    refine wpAnyH_take (i := 1) (oi := { dst := some 47, op := Op.load 23 (Operand.tmp 15), type := _, pos := _, after := _, guard := none }) (v := .agg #[.int .i64 x2.2.bas, .int .i64 x2.2.stp]) rfl (by kernel_rfl) (by kernel_rfl) (by kernel_rfl) (fun _ _ _ h => h) (Or.inl ⟨by rfl, fun w hSw => by obtain ⟨c0, c1⟩ := hSw.cells; clear hSw y0 y1 q0 q1; go_simp⟩) (by assumption) ?_
    simp only [Act.put, List.setIfInBounds_toArray, List.set_cons_zero, List.set_cons_succ]
    refine wpAnyH_take (i := 2) (oi := { dst := some 10, op := Op.assign (Operand.tmp 46), type := _, pos := _, after := _, guard := none }) (v := .int .i64 n2) rfl (by kernel_rfl) (by kernel_rfl) (by kernel_rfl) (fun _ _ _ h => h) (Or.inl ⟨by rfl, fun w hSw => by (try dsimp only at hSw); go_simp⟩) (by assumption) ?_
    simp only [Act.put, List.setIfInBounds_toArray, List.set_cons_zero, List.set_cons_succ]
    refine wpAnyH_ready (rs := [3]) (by kernel_rfl) (by simp) ?_
    refine AllReadyH.cons rfl (fun K hK => ?_) AllReadyH.nil
    go_simp
    refine hK.out _ _ (two_other hHeld HFY.out _ _ _ _) (fun hHeld2 => ?_)
    clear hHeld
    clear hK K
    try simp only [Act.put, List.setIfInBounds_toArray, List.set_cons_zero, List.set_cons_succ]
    refine wpAnyH_done (by kernel_rfl) ?_ _
    clear y0 y1 q0 q1 hHeld2
    have hC3 : CL w ((td2.setCell ⟨Y, 0, none⟩ (.int .i64 x2.2.bas)).setCell ⟨Y, 1, none⟩ (.int .i64 x2.2.stp)) K Y P x2.2 x0.2 x1.2 x2.2 := ⟨two_other HE0.out.re (block_ne HE0.out.re HE0.out.ky (by decide)) _ _ _ _, KyAt.set HE0.out.ky x2.2.bas x2.2.stp, two_other HE0.out.pa (block_ne HE0.out.pa HE0.out.ky (by decide)) _ _ _ _, two_bel HE0.out.bel HE0.out.gY _ _ _ _, HE0.out.gK, HE0.out.gY, HE0.out.gP, HE0.out.ne⟩
    clear HE0 HFY
    generalize ((td2.setCell ⟨Y, 0, none⟩ (.int .i64 x2.2.bas)).setCell ⟨Y, 1, none⟩ (.int .i64 x2.2.stp)) = s2 at *
    have z2 := HZ2.out
    clear HZ2
    go_wp2_with fail
    rw [rounds_succ]
    have HA : Hid _ := CliA.yes (cl_3 (x := x0) (y := x1) (z := x2) z0 z1 z2)
    have hre := hC3.re
    clear z0 z1 z2 H0 H1 H2
    go_wp2_with (first | (refine ldPt hC3.pa _ rfl rfl rfl ?_) | (refine stPa hre x0.2 x1.2 x2.2 rfl _ _ rfl rfl rfl ?_))
    refine bodyPost_ret (resRow (p := 6) (t := 7) rfl _ _ K (pal x0.2 x1.2 x2.2).toArray rfl (hre.row x0.2 x1.2 x2.2).var) rfl ?_
    exact ⟨HA.out, Rt.setRow_below hC3.gK hC3.bel _⟩
end Go.Proofs.Ytdghibimelhgjaa.Mb
