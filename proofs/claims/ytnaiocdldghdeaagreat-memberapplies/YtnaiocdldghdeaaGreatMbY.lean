/- Contract: the document's enter (made by wip/mk_rent.py). -/
import Derived.Test.YtnaiocdldghdeaaGreatMbJ6
import Derived.Test.YtnaiocdldghdeaaGreatPlJ7
namespace Go.Proofs.YtnaiocdldghdeaaGreat.Mb
open Go.RowKit Go.Maps
open Rt (Ky zK gd gv Gd pcs KyAt)
open Wi (gR gE gW gS gI gB gK ldM stM rd_guard ra_of th_of ra_later RdV itl stl)
set_option linter.unusedVariables false
set_option linter.unusedSimpArgs false

def sel {α : Type} (a b c d : α) : Nat → α
  | 0 => a
  | 1 => b
  | 2 => c
  | _ => d
theorem rPath_nd (s : Int) (h0 : 0 ≤ s) (h1 : s < 64) (w : World) : Calls Tryz.prog 52 #[.int .i64 s] w fun e w' => e = .returned (.tuple #[.agg #[.int .i64 (nd s 0), .int .i64 (nd s 1), .int .i64 (nd s 2)], .bool true]) ∧ Below w.heap.size w w' := by
  obtain ⟨k, rfl⟩ : ∃ k : Nat, s = (k : Int) := ⟨s.toNat, by omega⟩
  have h := rPath_pn k (by omega) w
  unfold nd
  rw [Int.toNat_natCast]
  exact h
def N3 (w : World) (A : Nat) (a b c : Int) : Prop := w.heap[A]? = some (.cells #[.int .i64 a, .int .i64 b, .int .i64 c] 101 (0, 0))
theorem N3.cells {w : World} {A : Nat} {a b c : Int} (h : N3 w A a b c) : w.cell? ⟨A, 0, none⟩ = some (.int .i64 a) ∧ w.cell? ⟨A, 1, none⟩ = some (.int .i64 b) ∧ w.cell? ⟨A, 2, none⟩ = some (.int .i64 c) := ⟨cell_of_row w A 0 _ _ _ h, cell_of_row w A 1 _ _ _ h, cell_of_row w A 2 _ _ _ h⟩
def pt0 (m : Mb) (x : Ky) : Mb := ⟨m.who, m.slt, m.ep, m.lf, x, m.p1, m.p2, m.has, m.out, m.bh⟩
def pt1 (m : Mb) (x : Ky) : Mb := ⟨m.who, m.slt, m.ep, m.lf, m.p0, x, m.p2, m.has, m.out, m.bh⟩
def pt2 (m : Mb) (x : Ky) : Mb := ⟨m.who, m.slt, m.ep, m.lf, m.p0, m.p1, x, m.has, m.out, m.bh⟩
structure ES (w W : World) (B D K A Y : Nat) (m : Mb) (r : Rk) (aL aJ aI : Option Addr) (cL cJ cI : Nat) (n0 n1 n2 : Int) (k : Ky) : Prop where
  mb : MA W B m
  rk : RK W D r aL aJ aI cL cJ cI
  re : MA W K zMb
  nd : N3 W A n0 n1 n2
  ky : KyAt W Y k
  bel : Below w.heap.size w W
  gB : w.heap.size ≤ B
  gK : w.heap.size ≤ K
  gY : w.heap.size ≤ Y
  ne : B ≠ K
section
variable {w W W' : World} {B D K A Y : Nat} {m : Mb} {r : Rk} {aL aJ aI : Option Addr} {cL cJ cI : Nat} {n0 n1 n2 : Int} {k : Ky}
theorem ES.later (h : ES w W B D K A Y m r aL aJ aI cL cJ cI n0 n1 n2 k) (hb : Below W.heap.size W W') : ES w W' B D K A Y m r aL aJ aI cL cJ cI n0 n1 n2 k := ⟨h.mb.later hb, h.rk.later hb, h.re.later hb, row_later h.nd hb, h.ky.later hb, h.bel.trans (hb.mono h.bel.size), h.gB, h.gK, h.gY, h.ne⟩
theorem ES.setP (h : ES w W B D K A Y m r aL aJ aI cL cJ cI n0 n1 n2 k) (i j : Nat) (u v : Value) {m' : Mb} (hm : MA ((W.setCell ⟨B, i, none⟩ u).setCell ⟨B, j, none⟩ v) B m') : ES w ((W.setCell ⟨B, i, none⟩ u).setCell ⟨B, j, none⟩ v) B D K A Y m' r aL aJ aI cL cJ cI n0 n1 n2 k :=
  ⟨hm, two_other h.rk (block_ne h.rk h.mb (by decide)) _ _ _ _, two_other h.re (Ne.symm h.ne) _ _ _ _, two_other h.nd (block_ne h.nd h.mb (by decide)) _ _ _ _, two_other h.ky (block_ne h.ky h.mb (by decide)) _ _ _ _, two_bel h.bel h.gB _ _ _ _, h.gB, h.gK, h.gY, h.ne⟩
theorem ES.set0 (h : ES w W B D K A Y m r aL aJ aI cL cJ cI n0 n1 n2 k) (x : Ky) : ES w ((W.setCell ⟨B, 5, none⟩ (.int .i64 x.bas)).setCell ⟨B, 6, none⟩ (.int .i64 x.stp)) B D K A Y (pt0 m x) r aL aJ aI cL cJ cI n0 n1 n2 k := h.setP 5 6 _ _ (Rt.row_setCell (Rt.row_setCell h.mb 5 (.int .i64 x.bas)) 6 (.int .i64 x.stp))
theorem ES.set1 (h : ES w W B D K A Y m r aL aJ aI cL cJ cI n0 n1 n2 k) (x : Ky) : ES w ((W.setCell ⟨B, 7, none⟩ (.int .i64 x.bas)).setCell ⟨B, 8, none⟩ (.int .i64 x.stp)) B D K A Y (pt1 m x) r aL aJ aI cL cJ cI n0 n1 n2 k := h.setP 7 8 _ _ (Rt.row_setCell (Rt.row_setCell h.mb 7 (.int .i64 x.bas)) 8 (.int .i64 x.stp))
theorem ES.set2 (h : ES w W B D K A Y m r aL aJ aI cL cJ cI n0 n1 n2 k) (x : Ky) : ES w ((W.setCell ⟨B, 9, none⟩ (.int .i64 x.bas)).setCell ⟨B, 10, none⟩ (.int .i64 x.stp)) B D K A Y (pt2 m x) r aL aJ aI cL cJ cI n0 n1 n2 k := h.setP 9 10 _ _ (Rt.row_setCell (Rt.row_setCell h.mb 9 (.int .i64 x.bas)) 10 (.int .i64 x.stp))
theorem ES.setY (h : ES w W B D K A Y m r aL aJ aI cL cJ cI n0 n1 n2 k) (x : Ky) : ES w ((W.setCell ⟨Y, 0, none⟩ (.int .i64 x.bas)).setCell ⟨Y, 1, none⟩ (.int .i64 x.stp)) B D K A Y m r aL aJ aI cL cJ cI n0 n1 n2 x :=
  ⟨two_other h.mb (block_ne h.mb h.ky (by decide)) _ _ _ _, two_other h.rk (block_ne h.rk h.ky (by decide)) _ _ _ _, two_other h.re (block_ne h.re h.ky (by decide)) _ _ _ _, two_other h.nd (block_ne h.nd h.ky (by decide)) _ _ _ _, KyAt.set h.ky x.bas x.stp, two_bel h.bel h.gY _ _ _ _, h.gB, h.gK, h.gY, h.ne⟩
theorem ES.box (h : ES w W B D K A Y m r aL aJ aI cL cJ cI n0 n1 n2 k) {X : Nat} {cs : Array Value} (hX : W.heap[X]? = some (.cells cs 58 (0, 0))) (hge : w.heap.size ≤ X) (ds : Array Value) : ES w (W.setRow X ds) B D K A Y m r aL aJ aI cL cJ cI n0 n1 n2 k :=
  ⟨(Rt.row_other (block_ne h.mb hX (by decide)) _).trans h.mb, (Rt.row_other (block_ne h.rk hX (by decide)) _).trans h.rk, (Rt.row_other (block_ne h.re hX (by decide)) _).trans h.re, (Rt.row_other (block_ne h.nd hX (by decide)) _).trans h.nd, (Rt.row_other (block_ne h.ky hX (by decide)) _).trans h.ky, Rt.setRow_below hge h.bel _, h.gB, h.gK, h.gY, h.ne⟩
theorem ES.key (h : ES w W B D K A Y m r aL aJ aI cL cJ cI n0 n1 n2 k) {V : Nat} {e : Ky} (hV : KyAt W V e) (hne : V ≠ Y) (hge : w.heap.size ≤ V) (ds : Array Value) : ES w (W.setRow V ds) B D K A Y m r aL aJ aI cL cJ cI n0 n1 n2 k :=
  ⟨(Rt.row_other (block_ne h.mb hV (by decide)) _).trans h.mb, (Rt.row_other (block_ne h.rk hV (by decide)) _).trans h.rk, (Rt.row_other (block_ne h.re hV (by decide)) _).trans h.re, (Rt.row_other (block_ne h.nd hV (by decide)) _).trans h.nd, (Rt.row_other (Ne.symm hne) _).trans h.ky, Rt.setRow_below hge h.bel _, h.gB, h.gK, h.gY, h.ne⟩
theorem ES.rng (h : ES w W B D K A Y m r aL aJ aI cL cJ cI n0 n1 n2 k) : W.rangeAt D 0 [.int .i64 r.1, .slice aL r.2.1.length cL, .slice aJ r.2.2.1.length cJ, .slice aI r.2.2.2.length cI] := ra_of h.rk 0 _ rfl
end
theorem rk_exec {w : World} {o : Oper} {a : Act} {D : Nat} {r : Rk} {aL aJ aI : Option Addr} {cL cJ cI : Nat} (h : RK w D r aL aJ aI cL cJ cI) {x : Operand} (ho : o.op = .load 31 x) (hx : a.eval x = .pointer (some ⟨D, 0, none⟩)) :
    (execOp a.eval o).run Tryz.prog w = .ok (.value (.agg #[.int .i64 r.1, .slice aL r.2.1.length cL, .slice aJ r.2.2.1.length cJ, .slice aI r.2.2.2.length cI])) w := by
  have h2 := run_loadAt_mid w D 0 31 [.int .i64 r.1, .slice aL r.2.1.length cL, .slice aJ r.2.2.1.length cJ, .slice aI r.2.2.2.length cI] _ (ra_of h 0 _ rfl) Tryz.underlying31 rfl Wi.szRk
  simp [execOp, ho, hx, h2, Sem.run_bind, Result.andThen]
theorem bx_of {n : Nat} {w X : World} (h : Below n w (X.alloc (.cells #[.int .i64 0, .int .i64 0, .int .i64 0, .int .i64 0] 58))) : BA (X.alloc (.cells #[.int .i64 0, .int .i64 0, .int .i64 0, .int .i64 0] 58)) X.heap.size zB := heap_alloc_last X _
theorem fst_good {I : List Im} (hI : I.all gI = true) {v f : Int} {b : (Int × Int) × (Int × Int)} (h : fstI I v f = some b) : gK b.1 = true ∧ gK b.2 = true := by
  obtain ⟨_, _, g1, g2⟩ := Wi.gI_iff.1 (List.all_eq_true.1 hI _ (fst_mem h))
  exact ⟨g1, g2⟩
theorem fs_yes {I : List Im} {v f : Int} (h : fsO I v f = true) : fstI I v f = some (fsB I v f) := by
  unfold fsO at h
  unfold fsB
  cases e : fstI I v f with
  | none => rw [e] at h; cases h
  | some b => rfl
theorem fs_no {I : List Im} {v f : Int} (h : fsO I v f = false) : fstI I v f = none := by
  unfold fsO at h
  cases e : fstI I v f with
  | none => rfl
  | some b => rw [e] at h; cases h
/- Where an entry's place comes from. -/
theorem en_own {I : List Im} {v leaf below : Int} {lf k : Ky} (h : fsO I v leaf = true) : enP I v leaf below lf k = if opn (fsB I v leaf) lf then (0, ldK (fsB I v leaf)) else (5, zK) := by unfold enP; rw [fs_yes h]
theorem en_low {I : List Im} {v leaf below : Int} {lf k : Ky} (h : fsO I v leaf = false) (h2 : fsO I v below = true) : enP I v leaf below lf k = if opn (fsB I v below) k then (0, ldK (fsB I v below)) else (5, zK) := by unfold enP; rw [fs_no h, fs_yes h2]
theorem en_none {I : List Im} {v leaf below : Int} {lf k : Ky} (h : fsO I v leaf = false) (h2 : fsO I v below = false) : enP I v leaf below lf k = (23, zK) := by unfold enP; rw [fs_no h, fs_no h2]
def EnF (m : Mb) (x0 x1 x2 : Int × Ky) : Mb := ⟨m.who, m.slt, m.ep, m.lf, x0.2, x1.2, x2.2, true, m.out, m.bh⟩
def EnA (m : Mb) (I : List Im) (e : Ending) : Prop := ∃ n, e = .returned (.tuple #[.agg (mba n), .int .i64 (enEr m I)]) ∧ (enEr m I = 0 → n = EnF m (en0 m I) (en1 m I) (en2 m I))
theorem EnA.no {m : Mb} {I : List Im} {e : Int} (h : enEr m I = e) (h0 : e ≠ 0) (n : Mb) : EnA m I (.returned (.tuple #[.agg (mba n), .int .i64 e])) := ⟨n, by rw [h], fun h2 => absurd (h.symm.trans h2) h0⟩
theorem EnA.yes {m : Mb} {I : List Im} (h : enEr m I = 0) : EnA m I (.returned (.tuple #[.agg (mba (EnF m (en0 m I) (en1 m I) (en2 m I))), .int .i64 0])) := ⟨_, by rw [h], fun _ => rfl⟩
theorem er_0 {m : Mb} {I : List Im} {e : Int} (h : (en0 m I).1 = e) (h0 : e ≠ 0) : enEr m I = e := by unfold enEr; rw [h, if_neg h0]
theorem er_1 {m : Mb} {I : List Im} {e : Int} (h1 : (en0 m I).1 = 0) (h : (en1 m I).1 = e) (h0 : e ≠ 0) : enEr m I = e := by unfold enEr; rw [if_pos h1, h, if_neg h0]
theorem er_2 {m : Mb} {I : List Im} {e : Int} (h1 : (en0 m I).1 = 0) (h2 : (en1 m I).1 = 0) (h : (en2 m I).1 = e) : enEr m I = e := by unfold enEr; rw [if_pos h1, if_pos h2, h]
set_option maxRecDepth 100000 in
set_option maxHeartbeats 8000000 in
theorem rEnter_any (m : Mb) (r : Rk) (aL aJ aI : Option Addr) (cL cJ cI : Nat) (w : World) (hr : RL w r aL aJ aI) (hg : gR r = true) (hlf : gk m.lf = true) (hs0 : 0 ≤ m.slt) (hs1 : m.slt < 64) :
    Calls Tryz.prog 18 #[.agg (mba m), .agg (rka r aL aJ aI cL cJ cI)] w fun e w' => EnA m r.2.2.2 e ∧ Below w.heap.size w w' := by
  have hS := MP.new (cL := cL) (cJ := cJ) (cI := cI) w m hr
  have hP := rPath_nd m.slt hs0 hs1
  have hl := Sh.rLeaf_any m.slt
  rw [Sh.lef_yes hs0 hs1] at hl
  have hfi := fun v f W (hW : RL W r aL aJ aI) => rFirst_any r aL aJ aI cL cJ cI v f W hW (by have := (gR_len hg).2.2; omega)
  unfold FsA rka at hfi
  have HFI : Hid _ := hfi
  have HI : Hid (r.2.2.2.all gI = true) := gR_items hg
  have HRL : Hid (RL w r aL aJ aI) := hr
  have E0 : Hid (en0 m r.2.2.2 = enP r.2.2.2 (nd m.slt 0) (21 + m.slt) (21 + m.slt) m.lf m.lf) := rfl
  have E1 : Hid (en1 m r.2.2.2 = enP r.2.2.2 (nd m.slt 1) (21 + m.slt) (nd m.slt 0) m.lf (en0 m r.2.2.2).2) := rfl
  have E2 : Hid (en2 m r.2.2.2 = enP r.2.2.2 (nd m.slt 2) (21 + m.slt) (nd m.slt 1) m.lf (en1 m r.2.2.2).2) := rfl
  have HLF : Hid (gk m.lf = true) := hlf
  generalize nd m.slt 0 = n0 at *
  generalize nd m.slt 1 = n1 at *
  generalize nd m.slt 2 = n2 at *
  generalize 21 + m.slt = q at *
  have HR0 : Hid (∀ e, (en0 m r.2.2.2).1 = e → e ≠ 0 → enEr m r.2.2.2 = e) := fun e => er_0
  have HR1 : Hid (∀ e, (en0 m r.2.2.2).1 = 0 → (en1 m r.2.2.2).1 = e → e ≠ 0 → enEr m r.2.2.2 = e) := fun e => er_1
  have HR2 : Hid (∀ e, (en0 m r.2.2.2).1 = 0 → (en1 m r.2.2.2).1 = 0 → (en2 m r.2.2.2).1 = e → enEr m r.2.2.2 = e) := fun e => er_2
  have HNO : Hid (∀ (e : Int) (_ : enEr m r.2.2.2 = e) (_ : e ≠ 0) (n : Mb), EnA m r.2.2.2 (.returned (.tuple #[.agg (mba n), .int .i64 e]))) := fun e h h0 n => EnA.no h h0 n
  have HYE : Hid (enEr m r.2.2.2 = 0 → EnA m r.2.2.2 (.returned (.tuple #[.agg (mba (EnF m (en0 m r.2.2.2) (en1 m r.2.2.2) (en2 m r.2.2.2))), .int .i64 0]))) := EnA.yes
  obtain ⟨ER, hER⟩ : ∃ e, enEr m r.2.2.2 = e := ⟨_, rfl⟩
  obtain ⟨PO, hPO⟩ : ∃ P : Ending → Prop, EnA m r.2.2.2 = P := ⟨_, rfl⟩
  rw [hER] at HR0 HR1 HR2 HNO HYE
  rw [hPO] at HNO HYE ⊢
  generalize en0 m r.2.2.2 = x0 at *
  generalize en1 m r.2.2.2 = x1 at *
  generalize en2 m r.2.2.2 = x2 at *
  clear hER hPO hfi hr hg hs0 hs1 hlf
  obtain ⟨cm, hcm⟩ : ∃ c, mba m = c := ⟨_, rfl⟩
  rw [hcm] at hS
  rw [hcm]
  clear hcm
  unfold rka at hS
  go_enter Tryz.func18, Tryz.ntmps18
  unfold rka
  go_upto_region 1 with (fail)
  rw [zMb_eq]
  generalize ((w.alloc (.cells cm 27)).alloc (.cells #[.int .i64 r.1, .slice aL r.2.1.length cL, .slice aJ r.2.2.1.length cJ, .slice aI r.2.2.2.length cI] 31)).alloc (.cells (mba zMb) 27) = w1 at *
  obtain ⟨K, hK⟩ : ∃ K, w.heap.size + 2 = K := ⟨_, rfl⟩
  obtain ⟨D, hD⟩ : ∃ K, w.heap.size + 1 = K := ⟨_, rfl⟩
  obtain ⟨B, hB⟩ : ∃ K, w.heap.size = K := ⟨_, rfl⟩
  rw [hK, hD, hB] at hS ⊢
  clear hK hD hB
  have c0 := hS.v.mb.slt
  go_wp2_with fail
  refine (hP _).mono ?_
  rintro e w2 ⟨rfl, hb2⟩
  have hb2' := Wi.Below.join hb2 (below_alloc w2 (.cells #[.int .i64 n0, .int .i64 n1, .int .i64 n2] 101))
  have hS3 := hS.later hb2'
  have hN3 : N3 (w2.alloc (.cells #[.int .i64 n0, .int .i64 n1, .int .i64 n2] 101)) w2.heap.size n0 n1 n2 := heap_alloc_last w2 _
  clear hS hb2 hb2' hP c0
  go_upto_region 2 with (fail)
  generalize w2.alloc (.cells #[.int .i64 n0, .int .i64 n1, .int .i64 n2] 101) = w3 at *
  generalize w2.heap.size = A at *
  have c0 := hS3.v.mb.slt
  go_wp2_with fail
  refine (hl _).mono ?_
  rintro e w3 ⟨rfl, rfl⟩
  clear c0 hl
  go_upto_region 3 with (fail)
  go_cut [9, 10] (fun s9 s10 wx => ∃ Y, s9 = .int .i64 q ∧ s10 = .pointer (some ⟨Y, 0, none⟩) ∧ ES w wx B D K A Y m r aL aJ aI cL cJ cI n0 n1 n2 m.lf)
  case first =>
    have HS3 : Hid (MP w w3 B D K m r aL aJ aI cL cJ cI) := hS3
    have HN3 : Hid (N3 w3 A n0 n1 n2) := hN3
    have hS0 : Below w3.heap.size w3 w3.drew := drew_below _
    clear hS3 hN3
    refine wp_region_held_drew (S := fun W => Below w3.heap.size w3 W) (by kernel_rfl) hS0 (fun hHeld => ?_)
    clear hS0
    have HPRE : Hid (Below w3.heap.size w3 w3.drew) := hHeld
    generalize w3.drew = wd at *
    refine wpAnyH_take (i := 0) (oi := { dst := some 26, op := Op.move (Operand.tmp 8), type := _, pos := _, after := _, guard := none }) (v := .int .i64 q) rfl (by kernel_rfl) (by kernel_rfl) (by kernel_rfl) (fun _ _ _ h => h) (Or.inl ⟨by rfl, fun w hSw => by (try dsimp only at hSw); go_simp⟩) (by assumption) ?_
    simp only [Act.put, List.setIfInBounds_toArray, List.set_cons_zero, List.set_cons_succ]
    refine wpAnyH_take (i := 1) (oi := { dst := some 27, op := Op.fieldAddr 27 (Operand.tmp 2) 3, type := _, pos := _, after := _, guard := none }) (v := .pointer (some ⟨B, 3, none⟩)) rfl (by kernel_rfl) (by kernel_rfl) (by kernel_rfl) (fun _ _ _ h => h) (Or.inl ⟨by rfl, fun w hSw => by (try dsimp only at hSw); go_simp⟩) (by assumption) ?_
    simp only [Act.put, List.setIfInBounds_toArray, List.set_cons_zero, List.set_cons_succ]
    refine wpAnyH_take (i := 2) (oi := { dst := some 28, op := Op.load 23 (Operand.tmp 27), type := _, pos := _, after := _, guard := none }) (v := .agg #[.int .i64 m.lf.bas, .int .i64 m.lf.stp]) rfl (by kernel_rfl) (by kernel_rfl) (by kernel_rfl) (fun _ _ _ h => h) (Or.inl ⟨by rfl, fun w hSw => by obtain ⟨c0, c1⟩ := (HS3.out.v.mb.later hSw).leaf; clear hSw; go_simp⟩) (by assumption) ?_
    simp only [Act.put, List.setIfInBounds_toArray, List.set_cons_zero, List.set_cons_succ]
    refine wpAnyH_ready (rs := [3]) (by kernel_rfl) (by simp) ?_
    refine AllReadyH.cons rfl (fun K hK => ?_) AllReadyH.nil
    go_simp
    refine hK.out _ _ (HPRE.out.trans ((below_alloc _ _).mono HPRE.out.size)) (fun hHeld2 => ?_)
    clear hHeld
    clear hK K
    try simp only [Act.put, List.setIfInBounds_toArray, List.set_cons_zero, List.set_cons_succ]
    refine wpAnyH_take (i := 4) (oi := { dst := some 9, op := Op.assign (Operand.tmp 26), type := _, pos := _, after := _, guard := none }) (v := .int .i64 q) rfl (by kernel_rfl) (by kernel_rfl) (by kernel_rfl) (fun _ _ _ h => h) (Or.inl ⟨by rfl, fun w hSw => by (try dsimp only at hSw); go_simp⟩) (by assumption) ?_
    simp only [Act.put, List.setIfInBounds_toArray, List.set_cons_zero, List.set_cons_succ]
    refine wpAnyH_ready (rs := [5]) (by kernel_rfl) (by simp) ?_
    refine AllReadyH.cons rfl (fun K hK => ?_) AllReadyH.nil
    go_simp
    refine hK.out _ _ (HPRE.out.trans ((below_alloc _ _).mono HPRE.out.size)) (fun hHeld3 => ?_)
    clear hHeld2
    clear hK K
    try simp only [Act.put, List.setIfInBounds_toArray, List.set_cons_zero, List.set_cons_succ]
    refine wpAnyH_done (by kernel_rfl) ?_ _
    go_wp2_with fail
    go_meet
    case rel =>
      have hX := HS3.out.later hHeld3
      exact ⟨_, rfl, rfl, ⟨hX.v.mb, hX.v.rk, hX.re, row_later HN3.out hHeld3, KyAt.new wd m.lf, hX.bel, hX.gB, hX.ge, Nat.le_trans HS3.out.bel.size HPRE.out.size, hX.ne⟩⟩
  case rest =>
    obtain ⟨Y, rfl, rfl, hE⟩ := hcut
    clear hS3 hN3
    go_wp2_with fail
    go_loopw [9, 11] (fun s9 s11 wx => ∃ i : Nat, i ≤ 3 ∧ s11 = .int .i64 (i : Int) ∧ s9 = .int .i64 (sel q n0 n1 n2 i) ∧ ES w wx B D K A Y (sel m (pt0 m x0.2) (pt1 (pt0 m x0.2) x1.2) (pt2 (pt1 (pt0 m x0.2) x1.2) x2.2) i) r aL aJ aI cL cJ cI n0 n1 n2 (sel m.lf x0.2 x1.2 x2.2 i) ∧ (1 ≤ i → x0.1 = 0 ∧ gk x0.2 = true) ∧ (2 ≤ i → x1.1 = 0 ∧ gk x1.2 = true) ∧ (3 ≤ i → x2.1 = 0)) (fun _ i _ => 3 - (intOf i).toNat)
    case atStart => exact ⟨0, by omega, rfl, rfl, hE, fun h => by omega, fun h => by omega, fun h => by omega⟩
    case round =>
      clear hE
      obtain ⟨i, hi, rfl, rfl, hE, p1, p2, p3⟩ := hrel
      have hi4 : i = 0 ∨ i = 1 ∨ i = 2 ∨ i = 3 := by omega
      clear hi
      rcases hi4 with rfl | rfl | rfl | rfl
      · have hE : ES w wr B D K A Y m r aL aJ aI cL cJ cI n0 n1 n2 m.lf := hE
        have hf : sel q n0 n1 n2 0 = q := rfl
        rw [hf]
        clear hf p1 p2 p3
        obtain ⟨b1, hb1⟩ : ∃ b, fsB r.2.2.2 n0 q = b := ⟨_, rfl⟩
        obtain ⟨o1, ho1⟩ : ∃ o, fsO r.2.2.2 n0 q = o := ⟨_, rfl⟩
        have hf1 := fun W (hW : RL W r aL aJ aI) => HFI.out n0 q W hW
        simp only [hb1, ho1] at hf1
        have HEN : Hid (x0 = enP r.2.2.2 n0 q q m.lf m.lf) := E0.out
        have HOWN : Hid (o1 = true → fstI r.2.2.2 n0 q = some b1 ∧ x0 = if opn b1 m.lf then (0, ldK b1) else (5, zK)) := fun h => by
          rw [HEN.out, ← hb1]
          rw [← ho1] at h
          exact ⟨fs_yes h, en_own h⟩
        have HLOW : Hid (o1 = false → (fsO r.2.2.2 n0 q = true → fstI r.2.2.2 n0 q = some (fsB r.2.2.2 n0 q) ∧ x0 = if opn (fsB r.2.2.2 n0 q) m.lf then (0, ldK (fsB r.2.2.2 n0 q)) else (5, zK)) ∧ (fsO r.2.2.2 n0 q = false → x0 = (23, zK))) := fun h => by
          rw [HEN.out]
          rw [← ho1] at h
          exact ⟨fun h2 => ⟨fs_yes h2, en_low h h2⟩, fun h2 => en_none h h2⟩
        clear hb1 ho1
        unfold bxa at hf1
        have HF1 : Hid _ := hf1
        clear hf1
        go_upto_region 7 with (fail)
        go_cut [12, 13] (fun s12 s13 wx => ∃ X, s12 = .pointer (some ⟨X, 0, none⟩) ∧ s13 = .bool o1 ∧ ES w wx B D K A Y m r aL aJ aI cL cJ cI n0 n1 n2 m.lf ∧ BA wx X b1 ∧ w.heap.size ≤ X)
        case first =>
          have hS0 : ES w wr.drew B D K A Y m r aL aJ aI cL cJ cI n0 n1 n2 m.lf := hE.later (drew_below _)
          clear hE
          refine wp_region_held_drew (S := fun W => ES w W B D K A Y m r aL aJ aI cL cJ cI n0 n1 n2 m.lf) (by kernel_rfl) hS0 (fun hHeld => ?_)
          clear hS0
          generalize wr.drew = wd at *
          refine wpAnyH_take (i := 0) (oi := { dst := some 34, op := Op.load 31 (Operand.tmp 3), type := _, pos := _, after := _, guard := none }) (v := .agg #[.int .i64 r.1, .slice aL r.2.1.length cL, .slice aJ r.2.2.1.length cJ, .slice aI r.2.2.2.length cI]) rfl (by kernel_rfl) (by kernel_rfl) (by kernel_rfl) (fun _ _ _ h => h) (Or.inl ⟨by rfl, fun w hSw => rk_exec hSw.rk rfl rfl⟩) (by assumption) ?_
          simp only [Act.put, List.setIfInBounds_toArray, List.set_cons_zero, List.set_cons_succ]
          refine wpAnyH_take (i := 1) (oi := { dst := some 35, op := Op.move (Operand.tmp 11), type := _, pos := _, after := _, guard := none }) (v := .int .i64 0) rfl (by kernel_rfl) (by kernel_rfl) (by kernel_rfl) (fun _ _ _ h => h) (Or.inl ⟨by rfl, fun w hSw => by (try dsimp only at hSw); go_simp⟩) (by assumption) ?_
          simp only [Act.put, List.setIfInBounds_toArray, List.set_cons_zero, List.set_cons_succ]
          refine wpAnyH_take (i := 2) (oi := { dst := some 36, op := Op.indexAddr 101 (Operand.tmp 6) (Operand.tmp 35), type := _, pos := _, after := _, guard := none }) (v := .pointer (some ⟨A, 0, none⟩)) rfl (by kernel_rfl) (by kernel_rfl) (by kernel_rfl) (fun _ _ _ h => h) (Or.inl ⟨by rfl, fun w hSw => by (try dsimp only at hSw); go_simp⟩) (by assumption) ?_
          simp only [Act.put, List.setIfInBounds_toArray, List.set_cons_zero, List.set_cons_succ]
          refine wpAnyH_take (i := 3) (oi := { dst := some 37, op := Op.load 3 (Operand.tmp 36), type := _, pos := _, after := _, guard := none }) (v := .int .i64 n0) rfl (by kernel_rfl) (by kernel_rfl) (by kernel_rfl) (fun _ _ _ h => h) (Or.inl ⟨by rfl, fun w hSw => by obtain ⟨c0, c1, c2⟩ := hSw.nd.cells; clear hSw; go_simp⟩) (by assumption) ?_
          simp only [Act.put, List.setIfInBounds_toArray, List.set_cons_zero, List.set_cons_succ]
          refine wpAnyH_take (i := 4) (oi := { dst := some 38, op := Op.move (Operand.tmp 8), type := _, pos := _, after := _, guard := none }) (v := .int .i64 q) rfl (by kernel_rfl) (by kernel_rfl) (by kernel_rfl) (fun _ _ _ h => h) (Or.inl ⟨by rfl, fun w hSw => by (try dsimp only at hSw); go_simp⟩) (by assumption) ?_
          simp only [Act.put, List.setIfInBounds_toArray, List.set_cons_zero, List.set_cons_succ]
          refine wpAnyH_ready (rs := [5, 9]) (by kernel_rfl) (by simp) ?_
          refine (AllReadyH.cons rfl (fun K hK => ?_) (AllReadyH.cons rfl (fun K hK => ?_) AllReadyH.nil))
          · go_simp
            refine (HF1.out _ (HRL.out.later hHeld.bel)).mono ?_
            rintro e w7 ⟨rfl, hb7⟩
            go_wp2_with fail
            try (have hz := hz.later hb7)
            refine hK.out _ _ (hHeld.later hb7) (fun hHd1 => ?_)
            clear hHeld hb7
            clear hK K
            try simp only [Act.put, List.setIfInBounds_toArray, List.set_cons_zero, List.set_cons_succ]
            refine wpAnyH_take (i := 6) (oi := { dst := some 33, op := Op.move (Operand.tmp 39), type := _, pos := _, after := _, guard := none }) (v := .tuple #[.agg #[.int .i64 b1.1.1, .int .i64 b1.1.2, .int .i64 b1.2.1, .int .i64 b1.2.2], .bool o1]) rfl (by kernel_rfl) (by kernel_rfl) (by kernel_rfl) (fun _ _ _ h => h) (Or.inl ⟨by rfl, fun w hSw => by (try dsimp only at hSw); go_simp⟩) (by assumption) ?_
            simp only [Act.put, List.setIfInBounds_toArray, List.set_cons_zero, List.set_cons_succ]
            refine wpAnyH_take (i := 7) (oi := { dst := some 40, op := Op.extract (Operand.tmp 33) 0, type := _, pos := _, after := _, guard := none }) (v := .agg #[.int .i64 b1.1.1, .int .i64 b1.1.2, .int .i64 b1.2.1, .int .i64 b1.2.2]) rfl (by kernel_rfl) (by kernel_rfl) (by kernel_rfl) (fun _ _ _ h => h) (Or.inl ⟨by rfl, fun w hSw => by (try dsimp only at hSw); go_simp⟩) (by assumption) ?_
            simp only [Act.put, List.setIfInBounds_toArray, List.set_cons_zero, List.set_cons_succ]
            refine wpAnyH_take (i := 8) (oi := { dst := some 41, op := Op.extract (Operand.tmp 33) 1, type := _, pos := _, after := _, guard := none }) (v := .bool o1) rfl (by kernel_rfl) (by kernel_rfl) (by kernel_rfl) (fun _ _ _ h => h) (Or.inl ⟨by rfl, fun w hSw => by (try dsimp only at hSw); go_simp⟩) (by assumption) ?_
            simp only [Act.put, List.setIfInBounds_toArray, List.set_cons_zero, List.set_cons_succ]
            refine wpAnyH_ready (rs := [9]) (by kernel_rfl) (by simp) ?_
            refine AllReadyH.cons rfl (fun K hK => ?_) AllReadyH.nil
            go_simp
            have hgX := hHd1.bel.size
            refine hK.out _ _ (hHd1.later (below_alloc _ _)) (fun hHd2 => ?_)
            have hz := bx_of hHd2.bel
            clear hHd1
            clear hK K
            try simp only [Act.put, List.setIfInBounds_toArray, List.set_cons_zero, List.set_cons_succ]
            refine wpAnyH_ready (rs := [10]) (by kernel_rfl) (by simp) ?_
            refine AllReadyH.cons rfl (fun Kc hK => ?_) AllReadyH.nil
            refine if_wp rfl (wp_stRow0 58 _ _ rfl _ (bxa b1) rfl rfl 58 _ hz infoBx4 rfl (by simp [bxa, Value.oneCell']) rfl ?_)
            have hzZ := Rt.heap_setRow_same hz (bxa b1)
            refine hK.out _ _ (hHd2.box hz hgX _) (fun hHd3 => ?_)
            clear hHd2
            clear hK Kc
            try simp only [Act.put, List.setIfInBounds_toArray, List.set_cons_zero, List.set_cons_succ]
            refine wpAnyH_take (i := 11) (oi := { dst := some 13, op := Op.assign (Operand.tmp 41), type := _, pos := _, after := _, guard := none }) (v := .bool o1) rfl (by kernel_rfl) (by kernel_rfl) (by kernel_rfl) (fun _ _ _ h => h) (Or.inl ⟨by rfl, fun w hSw => by (try dsimp only at hSw); go_simp⟩) (by assumption) ?_
            simp only [Act.put, List.setIfInBounds_toArray, List.set_cons_zero, List.set_cons_succ]
            refine wpAnyH_done (by kernel_rfl) ?_ _
            go_wp2_with fail
            go_meet
            case rel => exact ⟨_, rfl, rfl, hHd3, hzZ, hgX⟩
          · go_simp
            have hgX := hHeld.bel.size
            refine hK.out _ _ (hHeld.later (below_alloc _ _)) (fun hHd1 => ?_)
            have hz := bx_of hHd1.bel
            clear hHeld
            clear hK K
            try simp only [Act.put, List.setIfInBounds_toArray, List.set_cons_zero, List.set_cons_succ]
            refine wpAnyH_ready (rs := [5]) (by kernel_rfl) (by simp) ?_
            refine AllReadyH.cons rfl (fun K hK => ?_) AllReadyH.nil
            go_simp
            refine (HF1.out _ (HRL.out.later hHd1.bel)).mono ?_
            rintro e w7 ⟨rfl, hb7⟩
            go_wp2_with fail
            try (have hz := hz.later hb7)
            refine hK.out _ _ (hHd1.later hb7) (fun hHd2 => ?_)
            clear hHd1 hb7
            clear hK K
            try simp only [Act.put, List.setIfInBounds_toArray, List.set_cons_zero, List.set_cons_succ]
            refine wpAnyH_take (i := 6) (oi := { dst := some 33, op := Op.move (Operand.tmp 39), type := _, pos := _, after := _, guard := none }) (v := .tuple #[.agg #[.int .i64 b1.1.1, .int .i64 b1.1.2, .int .i64 b1.2.1, .int .i64 b1.2.2], .bool o1]) rfl (by kernel_rfl) (by kernel_rfl) (by kernel_rfl) (fun _ _ _ h => h) (Or.inl ⟨by rfl, fun w hSw => by (try dsimp only at hSw); go_simp⟩) (by assumption) ?_
            simp only [Act.put, List.setIfInBounds_toArray, List.set_cons_zero, List.set_cons_succ]
            refine wpAnyH_take (i := 7) (oi := { dst := some 40, op := Op.extract (Operand.tmp 33) 0, type := _, pos := _, after := _, guard := none }) (v := .agg #[.int .i64 b1.1.1, .int .i64 b1.1.2, .int .i64 b1.2.1, .int .i64 b1.2.2]) rfl (by kernel_rfl) (by kernel_rfl) (by kernel_rfl) (fun _ _ _ h => h) (Or.inl ⟨by rfl, fun w hSw => by (try dsimp only at hSw); go_simp⟩) (by assumption) ?_
            simp only [Act.put, List.setIfInBounds_toArray, List.set_cons_zero, List.set_cons_succ]
            refine wpAnyH_take (i := 8) (oi := { dst := some 41, op := Op.extract (Operand.tmp 33) 1, type := _, pos := _, after := _, guard := none }) (v := .bool o1) rfl (by kernel_rfl) (by kernel_rfl) (by kernel_rfl) (fun _ _ _ h => h) (Or.inl ⟨by rfl, fun w hSw => by (try dsimp only at hSw); go_simp⟩) (by assumption) ?_
            simp only [Act.put, List.setIfInBounds_toArray, List.set_cons_zero, List.set_cons_succ]
            refine wpAnyH_ready (rs := [10]) (by kernel_rfl) (by simp) ?_
            refine AllReadyH.cons rfl (fun Kc hK => ?_) AllReadyH.nil
            refine if_wp rfl (wp_stRow0 58 _ _ rfl _ (bxa b1) rfl rfl 58 _ hz infoBx4 rfl (by simp [bxa, Value.oneCell']) rfl ?_)
            have hzZ := Rt.heap_setRow_same hz (bxa b1)
            refine hK.out _ _ (hHd2.box hz hgX _) (fun hHd3 => ?_)
            clear hHd2
            clear hK Kc
            try simp only [Act.put, List.setIfInBounds_toArray, List.set_cons_zero, List.set_cons_succ]
            refine wpAnyH_take (i := 11) (oi := { dst := some 13, op := Op.assign (Operand.tmp 41), type := _, pos := _, after := _, guard := none }) (v := .bool o1) rfl (by kernel_rfl) (by kernel_rfl) (by kernel_rfl) (fun _ _ _ h => h) (Or.inl ⟨by rfl, fun w hSw => by (try dsimp only at hSw); go_simp⟩) (by assumption) ?_
            simp only [Act.put, List.setIfInBounds_toArray, List.set_cons_zero, List.set_cons_succ]
            refine wpAnyH_done (by kernel_rfl) ?_ _
            go_wp2_with fail
            go_meet
            case rel => exact ⟨_, rfl, rfl, hHd3, hzZ, hgX⟩
        case rest =>
          obtain ⟨X, rfl, rfl, hE8, hX8, gX8⟩ := hcut
          clear hE HF1
          have l0 : wc.cell? ⟨B, 3, none⟩ = some (.int .i64 m.lf.bas) := hE8.mb.leaf.1
          have l1 : wc.cell? ⟨B, 4, none⟩ = some (.int .i64 m.lf.stp) := hE8.mb.leaf.2
          have hb9 := below_alloc wc (.cells #[.int .i64 m.lf.bas, .int .i64 m.lf.stp] 23)
          have hE9 := hE8.later hb9
          have hX9 := hX8.later hb9
          have hV9 : KyAt (wc.alloc (.cells #[.int .i64 m.lf.bas, .int .i64 m.lf.stp] 23)) wc.heap.size m.lf := KyAt.new wc m.lf
          have hVY : wc.heap.size ≠ Y := Nat.ne_of_gt hE8.ky.lt
          have gV : w.heap.size ≤ wc.heap.size := hE8.bel.size
          have hXV : X ≠ wc.heap.size := Nat.ne_of_lt (Array.getElem?_eq_some_iff.1 hX8).1
          clear hE8 hX8 hb9
          go_upto_region 9 with (fail)
          generalize wc.alloc (.cells #[.int .i64 m.lf.bas, .int .i64 m.lf.stp] 23) = w9 at *
          generalize wc.heap.size = V at *
          clear l0 l1
          cases o1 with
          | true =>
            obtain ⟨hfst, hxe⟩ := HOWN.out rfl
            have HP : Hid (x0 = if opn b1 m.lf then (0, ldK b1) else (5, zK)) := hxe
            have HGB : Hid (gK b1.1 = true ∧ gK b1.2 = true) := fst_good HI.out hfst
            have HGW : Hid (gk m.lf = true) := HLF.out
            clear hfst hxe HOWN HLOW HEN
            go_upto_region 14 with (fail)
            obtain ⟨bb, hbb⟩ : ∃ b, b1 = b := ⟨_, rfl⟩
            obtain ⟨kw, hkw⟩ : ∃ b, m.lf = b := ⟨_, rfl⟩
            have hT : BA w9 X bb ∧ KyAt w9 V kw := ⟨hbb ▸ hX9, hkw ▸ hV9⟩
            have HP : Hid (x0 = if opn bb kw then (0, ldK bb) else (5, zK)) := by rw [← hbb, ← hkw]; exact HP.out
            have HGB : Hid (gK bb.1 = true ∧ gK bb.2 = true) := by rw [← hbb]; exact HGB.out
            have HGW : Hid (gk kw = true) := by rw [← hkw]; exact HGW.out
            clear hbb hkw hX9 hV9
            obtain ⟨hX9, hV9⟩ := hT
            obtain ⟨⟨z0, z1⟩, z2, z3⟩ := bb
            obtain ⟨q0, q1, q2, q3⟩ := hX9.cells
            obtain ⟨v0, v1⟩ := hV9.cells
            dsimp only at q0 q1 q2 q3
            cases hop : opn ((z0, z1), (z2, z3)) kw with
            | true =>
              have hO := Rt.rOpen_yes z0 z1 z2 z3 kw.bas kw.stp (Rt.gd_iff.1 HGB.out.1) (Rt.gd_iff.1 HGB.out.2) (Rt.gd_iff.1 HGW.out) hop
              have hxi : x0 = (0, ⟨z2, z3⟩) := by have := HP.out; rw [hop] at this; exact this
              have HGZ : Hid (gk ⟨z2, z3⟩ = true) := HGB.out.2
              clear HP hop HGB HGW
              subst hxi
              go_wp2_with fail
              refine (hO _).mono ?_
              rintro e w10 ⟨rfl, hb10⟩
              have hb10' := Wi.Below.join hb10 (below_alloc w10 (.cells #[.int .i64 z2, .int .i64 z3] 23))
              have hE10 := hE9.later hb10'
              have hF10 : KyAt (w10.alloc (.cells #[.int .i64 z2, .int .i64 z3] 23)) w10.heap.size ⟨z2, z3⟩ := KyAt.new w10 ⟨z2, z3⟩
              have hFY : w10.heap.size ≠ Y := Nat.ne_of_gt (hE9.later hb10).ky.lt
              have hFB : w10.heap.size ≠ B := Nat.ne_of_gt (hE9.later hb10).mb.lt
              clear hO hE9 hX9 hV9 hb10 hb10' q0 q1 q2 q3 v0 v1
              go_upto_region 15 with (fail)
              generalize w10.alloc (.cells #[.int .i64 z2, .int .i64 z3] 23) = w11 at *
              generalize w10.heap.size = F at *
              obtain ⟨⟨a0, a1⟩, ⟨a2, a3⟩, a4, a5⟩ := hE10.mb.key
              have g0 := hE10.mb.fr 5
              have g1 := hE10.mb.fr 6
              obtain ⟨f0, f1⟩ := hF10.cells
              go_upto_region 18 with (fail)
              have hE11 := hE10.set0 ⟨z2, z3⟩
              have hF11 : KyAt ((w11.setCell ⟨B, 5, none⟩ (.int .i64 z2)).setCell ⟨B, 6, none⟩ (.int .i64 z3)) F ⟨z2, z3⟩ := two_other hF10 hFB _ _ _ _
              clear hE10 hF10 a0 a1 a2 a3 a4 a5 g0 g1 f0 f1 hFB
              dsimp only at hE11
              generalize (w11.setCell ⟨B, 5, none⟩ (.int .i64 z2)).setCell ⟨B, 6, none⟩ (.int .i64 z3) = w12 at *
              have hED := hE11.later (drew_below _)
              have hFD := hF11.later (drew_below _)
              clear hE11 hF11
              have HED : Hid _ := hED
              have HFY : Hid (F ≠ Y) := hFY
              have HAY : Hid (A ≠ Y) := block_ne hED.nd hED.ky (by decide)
              have hS0 : KyAt w12.drew F ⟨z2, z3⟩ ∧ N3 w12.drew A n0 n1 n2 := ⟨hFD, hED.nd⟩
              clear hED hFD hFY
              refine wp_region_held_drew (S := fun W => KyAt W F ⟨z2, z3⟩ ∧ N3 W A n0 n1 n2) (by kernel_rfl) hS0 (fun hHeld => ?_)
              clear hS0
              obtain ⟨y0, y1⟩ := HED.out.ky.cells
              have u0 := Rt.row_frozen HED.out.ky 0
              have u1 := Rt.row_frozen HED.out.ky 1
              generalize w12.drew = wd at *
              refine wpAnyH_take (i := 0) (oi := { dst := some 72, op := Op.move (Operand.tmp 11), type := _, pos := _, after := _, guard := none }) (v := .int .i64 0) rfl (by kernel_rfl) (by kernel_rfl) (by kernel_rfl) (fun _ _ _ h => h) (Or.inl ⟨by rfl, fun w hSw => by (try dsimp only at hSw); go_simp⟩) (by assumption) ?_
              simp only [Act.put, List.setIfInBounds_toArray, List.set_cons_zero, List.set_cons_succ]
              refine wpAnyH_take (i := 1) (oi := { dst := some 73, op := Op.indexAddr 101 (Operand.tmp 6) (Operand.tmp 72), type := _, pos := _, after := _, guard := none }) (v := .pointer (some ⟨A, 0, none⟩)) rfl (by kernel_rfl) (by kernel_rfl) (by kernel_rfl) (fun _ _ _ h => h) (Or.inl ⟨by rfl, fun w hSw => by (try dsimp only at hSw); go_simp⟩) (by assumption) ?_
              simp only [Act.put, List.setIfInBounds_toArray, List.set_cons_zero, List.set_cons_succ]
              refine wpAnyH_take (i := 2) (oi := { dst := some 74, op := Op.load 3 (Operand.tmp 73), type := _, pos := _, after := _, guard := none }) (v := .int .i64 n0) rfl (by kernel_rfl) (by kernel_rfl) (by kernel_rfl) (fun _ _ _ h => h) (Or.inl ⟨by rfl, fun w hSw => by obtain ⟨c0, c1, c2⟩ := hSw.2.cells; clear hSw y0 y1 u0 u1; go_simp⟩) (by assumption) ?_
              simp only [Act.put, List.setIfInBounds_toArray, List.set_cons_zero, List.set_cons_succ]
              refine wpAnyH_take (i := 3) (oi := { dst := some 75, op := Op.load 23 (Operand.tmp 15), type := _, pos := _, after := _, guard := none }) (v := .agg #[.int .i64 z2, .int .i64 z3]) rfl (by kernel_rfl) (by kernel_rfl) (by kernel_rfl) (fun _ _ _ h => h) (Or.inl ⟨by rfl, fun w hSw => by obtain ⟨c0, c1⟩ := hSw.1.cells; clear hSw y0 y1 u0 u1; go_simp⟩) (by assumption) ?_
              simp only [Act.put, List.setIfInBounds_toArray, List.set_cons_zero, List.set_cons_succ]
              refine wpAnyH_take (i := 4) (oi := { dst := some 9, op := Op.assign (Operand.tmp 74), type := _, pos := _, after := _, guard := none }) (v := .int .i64 n0) rfl (by kernel_rfl) (by kernel_rfl) (by kernel_rfl) (fun _ _ _ h => h) (Or.inl ⟨by rfl, fun w hSw => by (try dsimp only at hSw); go_simp⟩) (by assumption) ?_
              simp only [Act.put, List.setIfInBounds_toArray, List.set_cons_zero, List.set_cons_succ]
              refine wpAnyH_ready (rs := [5]) (by kernel_rfl) (by simp) ?_
              refine AllReadyH.cons rfl (fun K hK => ?_) AllReadyH.nil
              go_simp
              refine hK.out _ _ ⟨two_other hHeld.1 HFY.out _ _ _ _, two_other hHeld.2 HAY.out _ _ _ _⟩ (fun hHeld2 => ?_)
              clear hHeld
              clear hK K
              try simp only [Act.put, List.setIfInBounds_toArray, List.set_cons_zero, List.set_cons_succ]
              refine wpAnyH_done (by kernel_rfl) ?_ _
              clear y0 y1 u0 u1 hHeld2
              have hE13 := HED.out.setY ⟨z2, z3⟩
              clear HED HFY HAY
              dsimp only at hE13
              generalize (wd.setCell ⟨Y, 0, none⟩ (.int .i64 z2)).setCell ⟨Y, 1, none⟩ (.int .i64 z3) = w13 at *
              go_wp2_with fail
              go_roundw
              case rel => exact ⟨1, by omega, rfl, rfl, hE13, fun _ => ⟨by first | rfl | trivial, HGZ.out⟩, fun h => by omega, fun h => by omega⟩
              case measure => simp [intOf]
            | false =>
              have hO := Rt.rOpen_off z0 z1 z2 z3 kw.bas kw.stp (Rt.gd_iff.1 HGB.out.1) (Rt.gd_iff.1 HGB.out.2) (Rt.gd_iff.1 HGW.out) hop
              have HXI : Hid (x0 = (5, zK)) := by have := HP.out; rw [hop] at this; exact this
              have HER : ER = 5 := HR0.out _ (by rw [HXI.out]) (by decide)
              have HERH : Hid (ER = 5) := HER
              clear HP hop HGB HGW HER
              go_wp2_with fail
              refine (hO _).mono ?_
              rintro e w10 ⟨rfl, hb10⟩
              have hE10 := hE9.later (Wi.Below.join hb10 (below_alloc w10 (.cells #[.int .i64 0, .int .i64 0] 23)))
              clear hO hE9 hX9 hV9 hb10 q0 q1 q2 q3 v0 v1
              go_upto_region 15 with (fail)
              generalize w10.alloc (.cells #[.int .i64 0, .int .i64 0] 23) = w11 at *
              generalize w10.heap.size = F at *
              have hre := hE10.re
              go_wp2_with (first | (refine ldMb hE10.mb rfl _ rfl rfl rfl ?_) | (refine stMb hre rfl rfl _ _ rfl rfl rfl ?_))
              refine bodyPost_ret (resRow (p := 4) (t := 5) rfl _ _ K (mba m) rfl (hre.row m).var) rfl ?_
              exact ⟨HNO.out 5 HERH.out (by decide) _, Rt.setRow_below hE10.gK hE10.bel _⟩
          | false =>
            obtain ⟨hlow, hnone⟩ := HLOW.out rfl
            clear HOWN HLOW HEN
            have hf2 := fun W (hW : RL W r aL aJ aI) => HFI.out n0 q W hW
            obtain ⟨b2, hb2⟩ : ∃ b, fsB r.2.2.2 n0 q = b := ⟨_, rfl⟩
            obtain ⟨o2, ho2⟩ : ∃ o, fsO r.2.2.2 n0 q = o := ⟨_, rfl⟩
            simp only [hb2, ho2] at hf2
            rw [hb2, ho2] at hlow
            rw [ho2] at hnone
            clear hb2 ho2
            unfold bxa at hf2
            have HF2 : Hid _ := hf2
            have HLW : Hid _ := hlow
            have HNN : Hid _ := hnone
            clear hf2 hlow hnone
            go_upto_region 10 with (fail)
            go_cut [13] (fun s13 wx => s13 = .bool o2 ∧ ES w wx B D K A Y m r aL aJ aI cL cJ cI n0 n1 n2 m.lf ∧ BA wx X b2 ∧ KyAt wx V m.lf)
            case first =>
              have HX9 : Hid (BA w9 X b1) := hX9
              have HV9 : Hid (KyAt w9 V m.lf) := hV9
              have hS0 : ES w w9.drew B D K A Y m r aL aJ aI cL cJ cI n0 n1 n2 m.lf := hE9.later (drew_below _)
              have HXD : Hid (BA w9.drew X b1) := hX9.later (drew_below _)
              have HVD : Hid (KyAt w9.drew V m.lf) := hV9.later (drew_below _)
              have HGX : Hid (w.heap.size ≤ X) := gX8
              clear hX9 hV9 hE9 HX9 HV9
              refine wp_region_held_drew (S := fun W => ES w W B D K A Y m r aL aJ aI cL cJ cI n0 n1 n2 m.lf) (by kernel_rfl) hS0 (fun hHeld => ?_)
              clear hS0
              generalize w9.drew = wd at *
              refine wpAnyH_take (i := 0) (oi := { dst := some 47, op := Op.load 31 (Operand.tmp 3), type := _, pos := _, after := _, guard := none }) (v := .agg #[.int .i64 r.1, .slice aL r.2.1.length cL, .slice aJ r.2.2.1.length cJ, .slice aI r.2.2.2.length cI]) rfl (by kernel_rfl) (by kernel_rfl) (by kernel_rfl) (fun _ _ _ h => h) (Or.inl ⟨by rfl, fun w hSw => rk_exec hSw.rk rfl rfl⟩) (by assumption) ?_
              simp only [Act.put, List.setIfInBounds_toArray, List.set_cons_zero, List.set_cons_succ]
              refine wpAnyH_take (i := 1) (oi := { dst := some 48, op := Op.move (Operand.tmp 11), type := _, pos := _, after := _, guard := none }) (v := .int .i64 0) rfl (by kernel_rfl) (by kernel_rfl) (by kernel_rfl) (fun _ _ _ h => h) (Or.inl ⟨by rfl, fun w hSw => by (try dsimp only at hSw); go_simp⟩) (by assumption) ?_
              simp only [Act.put, List.setIfInBounds_toArray, List.set_cons_zero, List.set_cons_succ]
              refine wpAnyH_take (i := 2) (oi := { dst := some 49, op := Op.indexAddr 101 (Operand.tmp 6) (Operand.tmp 48), type := _, pos := _, after := _, guard := none }) (v := .pointer (some ⟨A, 0, none⟩)) rfl (by kernel_rfl) (by kernel_rfl) (by kernel_rfl) (fun _ _ _ h => h) (Or.inl ⟨by rfl, fun w hSw => by (try dsimp only at hSw); go_simp⟩) (by assumption) ?_
              simp only [Act.put, List.setIfInBounds_toArray, List.set_cons_zero, List.set_cons_succ]
              refine wpAnyH_take (i := 3) (oi := { dst := some 50, op := Op.load 3 (Operand.tmp 49), type := _, pos := _, after := _, guard := none }) (v := .int .i64 n0) rfl (by kernel_rfl) (by kernel_rfl) (by kernel_rfl) (fun _ _ _ h => h) (Or.inl ⟨by rfl, fun w hSw => by obtain ⟨c0, c1, c2⟩ := hSw.nd.cells; clear hSw; go_simp⟩) (by assumption) ?_
              simp only [Act.put, List.setIfInBounds_toArray, List.set_cons_zero, List.set_cons_succ]
              refine wpAnyH_take (i := 4) (oi := { dst := some 51, op := Op.move (Operand.tmp 9), type := _, pos := _, after := _, guard := none }) (v := .int .i64 q) rfl (by kernel_rfl) (by kernel_rfl) (by kernel_rfl) (fun _ _ _ h => h) (Or.inl ⟨by rfl, fun w hSw => by (try dsimp only at hSw); go_simp⟩) (by assumption) ?_
              simp only [Act.put, List.setIfInBounds_toArray, List.set_cons_zero, List.set_cons_succ]
              refine wpAnyH_ready (rs := [5]) (by kernel_rfl) (by simp) ?_
              refine AllReadyH.cons rfl (fun K hK => ?_) AllReadyH.nil
              go_simp
              refine (HF2.out _ (HRL.out.later hHeld.bel)).mono ?_
              rintro e w10 ⟨rfl, hb10⟩
              go_wp2_with fail
              have hX10 := HXD.out.later hb10
              have hV10 := HVD.out.later hb10
              refine hK.out _ _ (hHeld.later hb10) (fun hHeld2 => ?_)
              clear hHeld hb10
              clear hK K
              try simp only [Act.put, List.setIfInBounds_toArray, List.set_cons_zero, List.set_cons_succ]
              refine wpAnyH_take (i := 6) (oi := { dst := some 46, op := Op.move (Operand.tmp 52), type := _, pos := _, after := _, guard := none }) (v := .tuple #[.agg #[.int .i64 b2.1.1, .int .i64 b2.1.2, .int .i64 b2.2.1, .int .i64 b2.2.2], .bool o2]) rfl (by kernel_rfl) (by kernel_rfl) (by kernel_rfl) (fun _ _ _ h => h) (Or.inl ⟨by rfl, fun w hSw => by (try dsimp only at hSw); go_simp⟩) (by assumption) ?_
              simp only [Act.put, List.setIfInBounds_toArray, List.set_cons_zero, List.set_cons_succ]
              refine wpAnyH_take (i := 7) (oi := { dst := some 53, op := Op.extract (Operand.tmp 46) 0, type := _, pos := _, after := _, guard := none }) (v := .agg #[.int .i64 b2.1.1, .int .i64 b2.1.2, .int .i64 b2.2.1, .int .i64 b2.2.2]) rfl (by kernel_rfl) (by kernel_rfl) (by kernel_rfl) (fun _ _ _ h => h) (Or.inl ⟨by rfl, fun w hSw => by (try dsimp only at hSw); go_simp⟩) (by assumption) ?_
              simp only [Act.put, List.setIfInBounds_toArray, List.set_cons_zero, List.set_cons_succ]
              refine wpAnyH_take (i := 8) (oi := { dst := some 54, op := Op.extract (Operand.tmp 46) 1, type := _, pos := _, after := _, guard := none }) (v := .bool o2) rfl (by kernel_rfl) (by kernel_rfl) (by kernel_rfl) (fun _ _ _ h => h) (Or.inl ⟨by rfl, fun w hSw => by (try dsimp only at hSw); go_simp⟩) (by assumption) ?_
              simp only [Act.put, List.setIfInBounds_toArray, List.set_cons_zero, List.set_cons_succ]
              refine wpAnyH_ready (rs := [9]) (by kernel_rfl) (by simp) ?_
              refine AllReadyH.cons rfl (fun Kc hK => ?_) AllReadyH.nil
              refine if_wp rfl (wp_stRow0 58 _ _ rfl _ (bxa b2) rfl rfl 58 _ hX10 infoBx4 rfl (by simp [bxa, Value.oneCell']) rfl ?_)
              have hXZ := Rt.heap_setRow_same hX10 (bxa b2)
              have hVZ : KyAt (w10.setRow X (bxa b2)) V m.lf := (Rt.row_other (block_ne hV10 hX10 (by decide)) _).trans hV10
              refine hK.out _ _ (hHeld2.box hX10 HGX.out _) (fun hHeld3 => ?_)
              clear hHeld2
              clear hK Kc
              try simp only [Act.put, List.setIfInBounds_toArray, List.set_cons_zero, List.set_cons_succ]
              refine wpAnyH_take (i := 10) (oi := { dst := some 13, op := Op.assign (Operand.tmp 54), type := _, pos := _, after := _, guard := none }) (v := .bool o2) rfl (by kernel_rfl) (by kernel_rfl) (by kernel_rfl) (fun _ _ _ h => h) (Or.inl ⟨by rfl, fun w hSw => by (try dsimp only at hSw); go_simp⟩) (by assumption) ?_
              simp only [Act.put, List.setIfInBounds_toArray, List.set_cons_zero, List.set_cons_succ]
              refine wpAnyH_done (by kernel_rfl) ?_ _
              go_wp2_with fail
              go_meet
              case rel => exact ⟨rfl, hHeld3, hXZ, hVZ⟩
            case rest =>
              obtain ⟨rfl, hEc, hXc, hVc⟩ := hcut
              clear hE9 hX9 hV9 HF2
              obtain ⟨y0, y1⟩ := hEc.ky.cells
              go_upto_region 12 with (refine stKy hVc m.lf rfl _ _ rfl rfl rfl ?_)
              clear y0 y1
              have hE9 := hEc.key hVc hVY gV #[.int .i64 m.lf.bas, .int .i64 m.lf.stp]
              have hX9 : BA (wc.setRow V #[.int .i64 m.lf.bas, .int .i64 m.lf.stp]) X b2 := (Rt.row_other hXV _).trans hXc
              have hV9 := KyAt.row hVc m.lf
              clear hEc hXc hVc
              generalize wc.setRow V #[.int .i64 m.lf.bas, .int .i64 m.lf.stp] = w9 at *
              cases o2 with
              | false =>
                have HXI : Hid (x0 = (23, zK)) := HNN.out rfl
                have HER : ER = 23 := HR0.out _ (by rw [HXI.out]) (by decide)
                have hre := hE9.re
                clear HLW HNN
                go_wp2_with (first | (refine ldMb hE9.mb rfl _ rfl rfl rfl ?_) | (refine stMb hre rfl rfl _ _ rfl rfl rfl ?_))
                refine bodyPost_ret (resRow (p := 4) (t := 5) rfl _ _ K (mba m) rfl (hre.row m).var) rfl ?_
                exact ⟨HNO.out 23 HER (by decide) _, Rt.setRow_below hE9.gK hE9.bel _⟩
              | true =>
                obtain ⟨hfst, hxe⟩ := HLW.out rfl
                have HP : Hid (x0 = if opn b2 m.lf then (0, ldK b2) else (5, zK)) := hxe
                have HGB : Hid (gK b2.1 = true ∧ gK b2.2 = true) := fst_good HI.out hfst
                have HGW : Hid (gk m.lf = true) := HLF.out
                clear hfst hxe HLW HNN
                go_upto_region 14 with (fail)
                obtain ⟨bb, hbb⟩ : ∃ b, b2 = b := ⟨_, rfl⟩
                obtain ⟨kw, hkw⟩ : ∃ b, m.lf = b := ⟨_, rfl⟩
                have hT : BA w9 X bb ∧ KyAt w9 V kw := ⟨hbb ▸ hX9, hkw ▸ hV9⟩
                have HP : Hid (x0 = if opn bb kw then (0, ldK bb) else (5, zK)) := by rw [← hbb, ← hkw]; exact HP.out
                have HGB : Hid (gK bb.1 = true ∧ gK bb.2 = true) := by rw [← hbb]; exact HGB.out
                have HGW : Hid (gk kw = true) := by rw [← hkw]; exact HGW.out
                clear hbb hkw hX9 hV9
                obtain ⟨hX9, hV9⟩ := hT
                obtain ⟨⟨z0, z1⟩, z2, z3⟩ := bb
                obtain ⟨q0, q1, q2, q3⟩ := hX9.cells
                obtain ⟨v0, v1⟩ := hV9.cells
                dsimp only at q0 q1 q2 q3
                cases hop : opn ((z0, z1), (z2, z3)) kw with
                | true =>
                  have hO := Rt.rOpen_yes z0 z1 z2 z3 kw.bas kw.stp (Rt.gd_iff.1 HGB.out.1) (Rt.gd_iff.1 HGB.out.2) (Rt.gd_iff.1 HGW.out) hop
                  have hxi : x0 = (0, ⟨z2, z3⟩) := by have := HP.out; rw [hop] at this; exact this
                  have HGZ : Hid (gk ⟨z2, z3⟩ = true) := HGB.out.2
                  clear HP hop HGB HGW
                  subst hxi
                  go_wp2_with fail
                  refine (hO _).mono ?_
                  rintro e w10 ⟨rfl, hb10⟩
                  have hb10' := Wi.Below.join hb10 (below_alloc w10 (.cells #[.int .i64 z2, .int .i64 z3] 23))
                  have hE10 := hE9.later hb10'
                  have hF10 : KyAt (w10.alloc (.cells #[.int .i64 z2, .int .i64 z3] 23)) w10.heap.size ⟨z2, z3⟩ := KyAt.new w10 ⟨z2, z3⟩
                  have hFY : w10.heap.size ≠ Y := Nat.ne_of_gt (hE9.later hb10).ky.lt
                  have hFB : w10.heap.size ≠ B := Nat.ne_of_gt (hE9.later hb10).mb.lt
                  clear hO hE9 hX9 hV9 hb10 hb10' q0 q1 q2 q3 v0 v1
                  go_upto_region 15 with (fail)
                  generalize w10.alloc (.cells #[.int .i64 z2, .int .i64 z3] 23) = w11 at *
                  generalize w10.heap.size = F at *
                  obtain ⟨⟨a0, a1⟩, ⟨a2, a3⟩, a4, a5⟩ := hE10.mb.key
                  have g0 := hE10.mb.fr 5
                  have g1 := hE10.mb.fr 6
                  obtain ⟨f0, f1⟩ := hF10.cells
                  go_upto_region 18 with (fail)
                  have hE11 := hE10.set0 ⟨z2, z3⟩
                  have hF11 : KyAt ((w11.setCell ⟨B, 5, none⟩ (.int .i64 z2)).setCell ⟨B, 6, none⟩ (.int .i64 z3)) F ⟨z2, z3⟩ := two_other hF10 hFB _ _ _ _
                  clear hE10 hF10 a0 a1 a2 a3 a4 a5 g0 g1 f0 f1 hFB
                  dsimp only at hE11
                  generalize (w11.setCell ⟨B, 5, none⟩ (.int .i64 z2)).setCell ⟨B, 6, none⟩ (.int .i64 z3) = w12 at *
                  have hED := hE11.later (drew_below _)
                  have hFD := hF11.later (drew_below _)
                  clear hE11 hF11
                  have HED : Hid _ := hED
                  have HFY : Hid (F ≠ Y) := hFY
                  have HAY : Hid (A ≠ Y) := block_ne hED.nd hED.ky (by decide)
                  have hS0 : KyAt w12.drew F ⟨z2, z3⟩ ∧ N3 w12.drew A n0 n1 n2 := ⟨hFD, hED.nd⟩
                  clear hED hFD hFY
                  refine wp_region_held_drew (S := fun W => KyAt W F ⟨z2, z3⟩ ∧ N3 W A n0 n1 n2) (by kernel_rfl) hS0 (fun hHeld => ?_)
                  clear hS0
                  obtain ⟨y0, y1⟩ := HED.out.ky.cells
                  have u0 := Rt.row_frozen HED.out.ky 0
                  have u1 := Rt.row_frozen HED.out.ky 1
                  generalize w12.drew = wd at *
                  refine wpAnyH_take (i := 0) (oi := { dst := some 72, op := Op.move (Operand.tmp 11), type := _, pos := _, after := _, guard := none }) (v := .int .i64 0) rfl (by kernel_rfl) (by kernel_rfl) (by kernel_rfl) (fun _ _ _ h => h) (Or.inl ⟨by rfl, fun w hSw => by (try dsimp only at hSw); go_simp⟩) (by assumption) ?_
                  simp only [Act.put, List.setIfInBounds_toArray, List.set_cons_zero, List.set_cons_succ]
                  refine wpAnyH_take (i := 1) (oi := { dst := some 73, op := Op.indexAddr 101 (Operand.tmp 6) (Operand.tmp 72), type := _, pos := _, after := _, guard := none }) (v := .pointer (some ⟨A, 0, none⟩)) rfl (by kernel_rfl) (by kernel_rfl) (by kernel_rfl) (fun _ _ _ h => h) (Or.inl ⟨by rfl, fun w hSw => by (try dsimp only at hSw); go_simp⟩) (by assumption) ?_
                  simp only [Act.put, List.setIfInBounds_toArray, List.set_cons_zero, List.set_cons_succ]
                  refine wpAnyH_take (i := 2) (oi := { dst := some 74, op := Op.load 3 (Operand.tmp 73), type := _, pos := _, after := _, guard := none }) (v := .int .i64 n0) rfl (by kernel_rfl) (by kernel_rfl) (by kernel_rfl) (fun _ _ _ h => h) (Or.inl ⟨by rfl, fun w hSw => by obtain ⟨c0, c1, c2⟩ := hSw.2.cells; clear hSw y0 y1 u0 u1; go_simp⟩) (by assumption) ?_
                  simp only [Act.put, List.setIfInBounds_toArray, List.set_cons_zero, List.set_cons_succ]
                  refine wpAnyH_take (i := 3) (oi := { dst := some 75, op := Op.load 23 (Operand.tmp 15), type := _, pos := _, after := _, guard := none }) (v := .agg #[.int .i64 z2, .int .i64 z3]) rfl (by kernel_rfl) (by kernel_rfl) (by kernel_rfl) (fun _ _ _ h => h) (Or.inl ⟨by rfl, fun w hSw => by obtain ⟨c0, c1⟩ := hSw.1.cells; clear hSw y0 y1 u0 u1; go_simp⟩) (by assumption) ?_
                  simp only [Act.put, List.setIfInBounds_toArray, List.set_cons_zero, List.set_cons_succ]
                  refine wpAnyH_take (i := 4) (oi := { dst := some 9, op := Op.assign (Operand.tmp 74), type := _, pos := _, after := _, guard := none }) (v := .int .i64 n0) rfl (by kernel_rfl) (by kernel_rfl) (by kernel_rfl) (fun _ _ _ h => h) (Or.inl ⟨by rfl, fun w hSw => by (try dsimp only at hSw); go_simp⟩) (by assumption) ?_
                  simp only [Act.put, List.setIfInBounds_toArray, List.set_cons_zero, List.set_cons_succ]
                  refine wpAnyH_ready (rs := [5]) (by kernel_rfl) (by simp) ?_
                  refine AllReadyH.cons rfl (fun K hK => ?_) AllReadyH.nil
                  go_simp
                  refine hK.out _ _ ⟨two_other hHeld.1 HFY.out _ _ _ _, two_other hHeld.2 HAY.out _ _ _ _⟩ (fun hHeld2 => ?_)
                  clear hHeld
                  clear hK K
                  try simp only [Act.put, List.setIfInBounds_toArray, List.set_cons_zero, List.set_cons_succ]
                  refine wpAnyH_done (by kernel_rfl) ?_ _
                  clear y0 y1 u0 u1 hHeld2
                  have hE13 := HED.out.setY ⟨z2, z3⟩
                  clear HED HFY HAY
                  dsimp only at hE13
                  generalize (wd.setCell ⟨Y, 0, none⟩ (.int .i64 z2)).setCell ⟨Y, 1, none⟩ (.int .i64 z3) = w13 at *
                  go_wp2_with fail
                  go_roundw
                  case rel => exact ⟨1, by omega, rfl, rfl, hE13, fun _ => ⟨by first | rfl | trivial, HGZ.out⟩, fun h => by omega, fun h => by omega⟩
                  case measure => simp [intOf]
                | false =>
                  have hO := Rt.rOpen_off z0 z1 z2 z3 kw.bas kw.stp (Rt.gd_iff.1 HGB.out.1) (Rt.gd_iff.1 HGB.out.2) (Rt.gd_iff.1 HGW.out) hop
                  have HXI : Hid (x0 = (5, zK)) := by have := HP.out; rw [hop] at this; exact this
                  have HER : ER = 5 := HR0.out _ (by rw [HXI.out]) (by decide)
                  have HERH : Hid (ER = 5) := HER
                  clear HP hop HGB HGW HER
                  go_wp2_with fail
                  refine (hO _).mono ?_
                  rintro e w10 ⟨rfl, hb10⟩
                  have hE10 := hE9.later (Wi.Below.join hb10 (below_alloc w10 (.cells #[.int .i64 0, .int .i64 0] 23)))
                  clear hO hE9 hX9 hV9 hb10 q0 q1 q2 q3 v0 v1
                  go_upto_region 15 with (fail)
                  generalize w10.alloc (.cells #[.int .i64 0, .int .i64 0] 23) = w11 at *
                  generalize w10.heap.size = F at *
                  have hre := hE10.re
                  go_wp2_with (first | (refine ldMb hE10.mb rfl _ rfl rfl rfl ?_) | (refine stMb hre rfl rfl _ _ rfl rfl rfl ?_))
                  refine bodyPost_ret (resRow (p := 4) (t := 5) rfl _ _ K (mba m) rfl (hre.row m).var) rfl ?_
                  exact ⟨HNO.out 5 HERH.out (by decide) _, Rt.setRow_below hE10.gK hE10.bel _⟩
      · have hE : ES w wr B D K A Y (pt0 m x0.2) r aL aJ aI cL cJ cI n0 n1 n2 x0.2 := hE
        have hf : sel q n0 n1 n2 1 = n0 := rfl
        rw [hf]
        have Z0 : Hid (x0.1 = 0 ∧ gk x0.2 = true) := p1 (by omega)
        clear hf p1 p2 p3
        obtain ⟨b1, hb1⟩ : ∃ b, fsB r.2.2.2 n1 q = b := ⟨_, rfl⟩
        obtain ⟨o1, ho1⟩ : ∃ o, fsO r.2.2.2 n1 q = o := ⟨_, rfl⟩
        have hf1 := fun W (hW : RL W r aL aJ aI) => HFI.out n1 q W hW
        simp only [hb1, ho1] at hf1
        have HEN : Hid (x1 = enP r.2.2.2 n1 q n0 m.lf x0.2) := E1.out
        have HOWN : Hid (o1 = true → fstI r.2.2.2 n1 q = some b1 ∧ x1 = if opn b1 m.lf then (0, ldK b1) else (5, zK)) := fun h => by
          rw [HEN.out, ← hb1]
          rw [← ho1] at h
          exact ⟨fs_yes h, en_own h⟩
        have HLOW : Hid (o1 = false → (fsO r.2.2.2 n1 n0 = true → fstI r.2.2.2 n1 n0 = some (fsB r.2.2.2 n1 n0) ∧ x1 = if opn (fsB r.2.2.2 n1 n0) x0.2 then (0, ldK (fsB r.2.2.2 n1 n0)) else (5, zK)) ∧ (fsO r.2.2.2 n1 n0 = false → x1 = (23, zK))) := fun h => by
          rw [HEN.out]
          rw [← ho1] at h
          exact ⟨fun h2 => ⟨fs_yes h2, en_low h h2⟩, fun h2 => en_none h h2⟩
        clear hb1 ho1
        unfold bxa at hf1
        have HF1 : Hid _ := hf1
        clear hf1
        go_upto_region 7 with (fail)
        go_cut [12, 13] (fun s12 s13 wx => ∃ X, s12 = .pointer (some ⟨X, 0, none⟩) ∧ s13 = .bool o1 ∧ ES w wx B D K A Y (pt0 m x0.2) r aL aJ aI cL cJ cI n0 n1 n2 x0.2 ∧ BA wx X b1 ∧ w.heap.size ≤ X)
        case first =>
          have hS0 : ES w wr.drew B D K A Y (pt0 m x0.2) r aL aJ aI cL cJ cI n0 n1 n2 x0.2 := hE.later (drew_below _)
          clear hE
          refine wp_region_held_drew (S := fun W => ES w W B D K A Y (pt0 m x0.2) r aL aJ aI cL cJ cI n0 n1 n2 x0.2) (by kernel_rfl) hS0 (fun hHeld => ?_)
          clear hS0
          generalize wr.drew = wd at *
          refine wpAnyH_take (i := 0) (oi := { dst := some 34, op := Op.load 31 (Operand.tmp 3), type := _, pos := _, after := _, guard := none }) (v := .agg #[.int .i64 r.1, .slice aL r.2.1.length cL, .slice aJ r.2.2.1.length cJ, .slice aI r.2.2.2.length cI]) rfl (by kernel_rfl) (by kernel_rfl) (by kernel_rfl) (fun _ _ _ h => h) (Or.inl ⟨by rfl, fun w hSw => rk_exec hSw.rk rfl rfl⟩) (by assumption) ?_
          simp only [Act.put, List.setIfInBounds_toArray, List.set_cons_zero, List.set_cons_succ]
          refine wpAnyH_take (i := 1) (oi := { dst := some 35, op := Op.move (Operand.tmp 11), type := _, pos := _, after := _, guard := none }) (v := .int .i64 1) rfl (by kernel_rfl) (by kernel_rfl) (by kernel_rfl) (fun _ _ _ h => h) (Or.inl ⟨by rfl, fun w hSw => by (try dsimp only at hSw); go_simp⟩) (by assumption) ?_
          simp only [Act.put, List.setIfInBounds_toArray, List.set_cons_zero, List.set_cons_succ]
          refine wpAnyH_take (i := 2) (oi := { dst := some 36, op := Op.indexAddr 101 (Operand.tmp 6) (Operand.tmp 35), type := _, pos := _, after := _, guard := none }) (v := .pointer (some ⟨A, 1, none⟩)) rfl (by kernel_rfl) (by kernel_rfl) (by kernel_rfl) (fun _ _ _ h => h) (Or.inl ⟨by rfl, fun w hSw => by (try dsimp only at hSw); go_simp⟩) (by assumption) ?_
          simp only [Act.put, List.setIfInBounds_toArray, List.set_cons_zero, List.set_cons_succ]
          refine wpAnyH_take (i := 3) (oi := { dst := some 37, op := Op.load 3 (Operand.tmp 36), type := _, pos := _, after := _, guard := none }) (v := .int .i64 n1) rfl (by kernel_rfl) (by kernel_rfl) (by kernel_rfl) (fun _ _ _ h => h) (Or.inl ⟨by rfl, fun w hSw => by obtain ⟨c0, c1, c2⟩ := hSw.nd.cells; clear hSw; go_simp⟩) (by assumption) ?_
          simp only [Act.put, List.setIfInBounds_toArray, List.set_cons_zero, List.set_cons_succ]
          refine wpAnyH_take (i := 4) (oi := { dst := some 38, op := Op.move (Operand.tmp 8), type := _, pos := _, after := _, guard := none }) (v := .int .i64 q) rfl (by kernel_rfl) (by kernel_rfl) (by kernel_rfl) (fun _ _ _ h => h) (Or.inl ⟨by rfl, fun w hSw => by (try dsimp only at hSw); go_simp⟩) (by assumption) ?_
          simp only [Act.put, List.setIfInBounds_toArray, List.set_cons_zero, List.set_cons_succ]
          refine wpAnyH_ready (rs := [5, 9]) (by kernel_rfl) (by simp) ?_
          refine (AllReadyH.cons rfl (fun K hK => ?_) (AllReadyH.cons rfl (fun K hK => ?_) AllReadyH.nil))
          · go_simp
            refine (HF1.out _ (HRL.out.later hHeld.bel)).mono ?_
            rintro e w7 ⟨rfl, hb7⟩
            go_wp2_with fail
            try (have hz := hz.later hb7)
            refine hK.out _ _ (hHeld.later hb7) (fun hHd1 => ?_)
            clear hHeld hb7
            clear hK K
            try simp only [Act.put, List.setIfInBounds_toArray, List.set_cons_zero, List.set_cons_succ]
            refine wpAnyH_take (i := 6) (oi := { dst := some 33, op := Op.move (Operand.tmp 39), type := _, pos := _, after := _, guard := none }) (v := .tuple #[.agg #[.int .i64 b1.1.1, .int .i64 b1.1.2, .int .i64 b1.2.1, .int .i64 b1.2.2], .bool o1]) rfl (by kernel_rfl) (by kernel_rfl) (by kernel_rfl) (fun _ _ _ h => h) (Or.inl ⟨by rfl, fun w hSw => by (try dsimp only at hSw); go_simp⟩) (by assumption) ?_
            simp only [Act.put, List.setIfInBounds_toArray, List.set_cons_zero, List.set_cons_succ]
            refine wpAnyH_take (i := 7) (oi := { dst := some 40, op := Op.extract (Operand.tmp 33) 0, type := _, pos := _, after := _, guard := none }) (v := .agg #[.int .i64 b1.1.1, .int .i64 b1.1.2, .int .i64 b1.2.1, .int .i64 b1.2.2]) rfl (by kernel_rfl) (by kernel_rfl) (by kernel_rfl) (fun _ _ _ h => h) (Or.inl ⟨by rfl, fun w hSw => by (try dsimp only at hSw); go_simp⟩) (by assumption) ?_
            simp only [Act.put, List.setIfInBounds_toArray, List.set_cons_zero, List.set_cons_succ]
            refine wpAnyH_take (i := 8) (oi := { dst := some 41, op := Op.extract (Operand.tmp 33) 1, type := _, pos := _, after := _, guard := none }) (v := .bool o1) rfl (by kernel_rfl) (by kernel_rfl) (by kernel_rfl) (fun _ _ _ h => h) (Or.inl ⟨by rfl, fun w hSw => by (try dsimp only at hSw); go_simp⟩) (by assumption) ?_
            simp only [Act.put, List.setIfInBounds_toArray, List.set_cons_zero, List.set_cons_succ]
            refine wpAnyH_ready (rs := [9]) (by kernel_rfl) (by simp) ?_
            refine AllReadyH.cons rfl (fun K hK => ?_) AllReadyH.nil
            go_simp
            have hgX := hHd1.bel.size
            refine hK.out _ _ (hHd1.later (below_alloc _ _)) (fun hHd2 => ?_)
            have hz := bx_of hHd2.bel
            clear hHd1
            clear hK K
            try simp only [Act.put, List.setIfInBounds_toArray, List.set_cons_zero, List.set_cons_succ]
            refine wpAnyH_ready (rs := [10]) (by kernel_rfl) (by simp) ?_
            refine AllReadyH.cons rfl (fun Kc hK => ?_) AllReadyH.nil
            refine if_wp rfl (wp_stRow0 58 _ _ rfl _ (bxa b1) rfl rfl 58 _ hz infoBx4 rfl (by simp [bxa, Value.oneCell']) rfl ?_)
            have hzZ := Rt.heap_setRow_same hz (bxa b1)
            refine hK.out _ _ (hHd2.box hz hgX _) (fun hHd3 => ?_)
            clear hHd2
            clear hK Kc
            try simp only [Act.put, List.setIfInBounds_toArray, List.set_cons_zero, List.set_cons_succ]
            refine wpAnyH_take (i := 11) (oi := { dst := some 13, op := Op.assign (Operand.tmp 41), type := _, pos := _, after := _, guard := none }) (v := .bool o1) rfl (by kernel_rfl) (by kernel_rfl) (by kernel_rfl) (fun _ _ _ h => h) (Or.inl ⟨by rfl, fun w hSw => by (try dsimp only at hSw); go_simp⟩) (by assumption) ?_
            simp only [Act.put, List.setIfInBounds_toArray, List.set_cons_zero, List.set_cons_succ]
            refine wpAnyH_done (by kernel_rfl) ?_ _
            go_wp2_with fail
            go_meet
            case rel => exact ⟨_, rfl, rfl, hHd3, hzZ, hgX⟩
          · go_simp
            have hgX := hHeld.bel.size
            refine hK.out _ _ (hHeld.later (below_alloc _ _)) (fun hHd1 => ?_)
            have hz := bx_of hHd1.bel
            clear hHeld
            clear hK K
            try simp only [Act.put, List.setIfInBounds_toArray, List.set_cons_zero, List.set_cons_succ]
            refine wpAnyH_ready (rs := [5]) (by kernel_rfl) (by simp) ?_
            refine AllReadyH.cons rfl (fun K hK => ?_) AllReadyH.nil
            go_simp
            refine (HF1.out _ (HRL.out.later hHd1.bel)).mono ?_
            rintro e w7 ⟨rfl, hb7⟩
            go_wp2_with fail
            try (have hz := hz.later hb7)
            refine hK.out _ _ (hHd1.later hb7) (fun hHd2 => ?_)
            clear hHd1 hb7
            clear hK K
            try simp only [Act.put, List.setIfInBounds_toArray, List.set_cons_zero, List.set_cons_succ]
            refine wpAnyH_take (i := 6) (oi := { dst := some 33, op := Op.move (Operand.tmp 39), type := _, pos := _, after := _, guard := none }) (v := .tuple #[.agg #[.int .i64 b1.1.1, .int .i64 b1.1.2, .int .i64 b1.2.1, .int .i64 b1.2.2], .bool o1]) rfl (by kernel_rfl) (by kernel_rfl) (by kernel_rfl) (fun _ _ _ h => h) (Or.inl ⟨by rfl, fun w hSw => by (try dsimp only at hSw); go_simp⟩) (by assumption) ?_
            simp only [Act.put, List.setIfInBounds_toArray, List.set_cons_zero, List.set_cons_succ]
            refine wpAnyH_take (i := 7) (oi := { dst := some 40, op := Op.extract (Operand.tmp 33) 0, type := _, pos := _, after := _, guard := none }) (v := .agg #[.int .i64 b1.1.1, .int .i64 b1.1.2, .int .i64 b1.2.1, .int .i64 b1.2.2]) rfl (by kernel_rfl) (by kernel_rfl) (by kernel_rfl) (fun _ _ _ h => h) (Or.inl ⟨by rfl, fun w hSw => by (try dsimp only at hSw); go_simp⟩) (by assumption) ?_
            simp only [Act.put, List.setIfInBounds_toArray, List.set_cons_zero, List.set_cons_succ]
            refine wpAnyH_take (i := 8) (oi := { dst := some 41, op := Op.extract (Operand.tmp 33) 1, type := _, pos := _, after := _, guard := none }) (v := .bool o1) rfl (by kernel_rfl) (by kernel_rfl) (by kernel_rfl) (fun _ _ _ h => h) (Or.inl ⟨by rfl, fun w hSw => by (try dsimp only at hSw); go_simp⟩) (by assumption) ?_
            simp only [Act.put, List.setIfInBounds_toArray, List.set_cons_zero, List.set_cons_succ]
            refine wpAnyH_ready (rs := [10]) (by kernel_rfl) (by simp) ?_
            refine AllReadyH.cons rfl (fun Kc hK => ?_) AllReadyH.nil
            refine if_wp rfl (wp_stRow0 58 _ _ rfl _ (bxa b1) rfl rfl 58 _ hz infoBx4 rfl (by simp [bxa, Value.oneCell']) rfl ?_)
            have hzZ := Rt.heap_setRow_same hz (bxa b1)
            refine hK.out _ _ (hHd2.box hz hgX _) (fun hHd3 => ?_)
            clear hHd2
            clear hK Kc
            try simp only [Act.put, List.setIfInBounds_toArray, List.set_cons_zero, List.set_cons_succ]
            refine wpAnyH_take (i := 11) (oi := { dst := some 13, op := Op.assign (Operand.tmp 41), type := _, pos := _, after := _, guard := none }) (v := .bool o1) rfl (by kernel_rfl) (by kernel_rfl) (by kernel_rfl) (fun _ _ _ h => h) (Or.inl ⟨by rfl, fun w hSw => by (try dsimp only at hSw); go_simp⟩) (by assumption) ?_
            simp only [Act.put, List.setIfInBounds_toArray, List.set_cons_zero, List.set_cons_succ]
            refine wpAnyH_done (by kernel_rfl) ?_ _
            go_wp2_with fail
            go_meet
            case rel => exact ⟨_, rfl, rfl, hHd3, hzZ, hgX⟩
        case rest =>
          obtain ⟨X, rfl, rfl, hE8, hX8, gX8⟩ := hcut
          clear hE HF1
          have l0 : wc.cell? ⟨B, 3, none⟩ = some (.int .i64 m.lf.bas) := hE8.mb.leaf.1
          have l1 : wc.cell? ⟨B, 4, none⟩ = some (.int .i64 m.lf.stp) := hE8.mb.leaf.2
          have hb9 := below_alloc wc (.cells #[.int .i64 m.lf.bas, .int .i64 m.lf.stp] 23)
          have hE9 := hE8.later hb9
          have hX9 := hX8.later hb9
          have hV9 : KyAt (wc.alloc (.cells #[.int .i64 m.lf.bas, .int .i64 m.lf.stp] 23)) wc.heap.size m.lf := KyAt.new wc m.lf
          have hVY : wc.heap.size ≠ Y := Nat.ne_of_gt hE8.ky.lt
          have gV : w.heap.size ≤ wc.heap.size := hE8.bel.size
          have hXV : X ≠ wc.heap.size := Nat.ne_of_lt (Array.getElem?_eq_some_iff.1 hX8).1
          clear hE8 hX8 hb9
          go_upto_region 9 with (fail)
          generalize wc.alloc (.cells #[.int .i64 m.lf.bas, .int .i64 m.lf.stp] 23) = w9 at *
          generalize wc.heap.size = V at *
          clear l0 l1
          cases o1 with
          | true =>
            obtain ⟨hfst, hxe⟩ := HOWN.out rfl
            have HP : Hid (x1 = if opn b1 m.lf then (0, ldK b1) else (5, zK)) := hxe
            have HGB : Hid (gK b1.1 = true ∧ gK b1.2 = true) := fst_good HI.out hfst
            have HGW : Hid (gk m.lf = true) := HLF.out
            clear hfst hxe HOWN HLOW HEN
            go_upto_region 14 with (fail)
            obtain ⟨bb, hbb⟩ : ∃ b, b1 = b := ⟨_, rfl⟩
            obtain ⟨kw, hkw⟩ : ∃ b, m.lf = b := ⟨_, rfl⟩
            have hT : BA w9 X bb ∧ KyAt w9 V kw := ⟨hbb ▸ hX9, hkw ▸ hV9⟩
            have HP : Hid (x1 = if opn bb kw then (0, ldK bb) else (5, zK)) := by rw [← hbb, ← hkw]; exact HP.out
            have HGB : Hid (gK bb.1 = true ∧ gK bb.2 = true) := by rw [← hbb]; exact HGB.out
            have HGW : Hid (gk kw = true) := by rw [← hkw]; exact HGW.out
            clear hbb hkw hX9 hV9
            obtain ⟨hX9, hV9⟩ := hT
            obtain ⟨⟨z0, z1⟩, z2, z3⟩ := bb
            obtain ⟨q0, q1, q2, q3⟩ := hX9.cells
            obtain ⟨v0, v1⟩ := hV9.cells
            dsimp only at q0 q1 q2 q3
            cases hop : opn ((z0, z1), (z2, z3)) kw with
            | true =>
              have hO := Rt.rOpen_yes z0 z1 z2 z3 kw.bas kw.stp (Rt.gd_iff.1 HGB.out.1) (Rt.gd_iff.1 HGB.out.2) (Rt.gd_iff.1 HGW.out) hop
              have hxi : x1 = (0, ⟨z2, z3⟩) := by have := HP.out; rw [hop] at this; exact this
              have HGZ : Hid (gk ⟨z2, z3⟩ = true) := HGB.out.2
              clear HP hop HGB HGW
              subst hxi
              go_wp2_with fail
              refine (hO _).mono ?_
              rintro e w10 ⟨rfl, hb10⟩
              have hb10' := Wi.Below.join hb10 (below_alloc w10 (.cells #[.int .i64 z2, .int .i64 z3] 23))
              have hE10 := hE9.later hb10'
              have hF10 : KyAt (w10.alloc (.cells #[.int .i64 z2, .int .i64 z3] 23)) w10.heap.size ⟨z2, z3⟩ := KyAt.new w10 ⟨z2, z3⟩
              have hFY : w10.heap.size ≠ Y := Nat.ne_of_gt (hE9.later hb10).ky.lt
              have hFB : w10.heap.size ≠ B := Nat.ne_of_gt (hE9.later hb10).mb.lt
              clear hO hE9 hX9 hV9 hb10 hb10' q0 q1 q2 q3 v0 v1
              go_upto_region 15 with (fail)
              generalize w10.alloc (.cells #[.int .i64 z2, .int .i64 z3] 23) = w11 at *
              generalize w10.heap.size = F at *
              obtain ⟨⟨a0, a1⟩, ⟨a2, a3⟩, a4, a5⟩ := hE10.mb.key
              have g0 := hE10.mb.fr 7
              have g1 := hE10.mb.fr 8
              obtain ⟨f0, f1⟩ := hF10.cells
              go_upto_region 18 with (fail)
              have hE11 := hE10.set1 ⟨z2, z3⟩
              have hF11 : KyAt ((w11.setCell ⟨B, 7, none⟩ (.int .i64 z2)).setCell ⟨B, 8, none⟩ (.int .i64 z3)) F ⟨z2, z3⟩ := two_other hF10 hFB _ _ _ _
              clear hE10 hF10 a0 a1 a2 a3 a4 a5 g0 g1 f0 f1 hFB
              dsimp only at hE11
              generalize (w11.setCell ⟨B, 7, none⟩ (.int .i64 z2)).setCell ⟨B, 8, none⟩ (.int .i64 z3) = w12 at *
              have hED := hE11.later (drew_below _)
              have hFD := hF11.later (drew_below _)
              clear hE11 hF11
              have HED : Hid _ := hED
              have HFY : Hid (F ≠ Y) := hFY
              have HAY : Hid (A ≠ Y) := block_ne hED.nd hED.ky (by decide)
              have hS0 : KyAt w12.drew F ⟨z2, z3⟩ ∧ N3 w12.drew A n0 n1 n2 := ⟨hFD, hED.nd⟩
              clear hED hFD hFY
              refine wp_region_held_drew (S := fun W => KyAt W F ⟨z2, z3⟩ ∧ N3 W A n0 n1 n2) (by kernel_rfl) hS0 (fun hHeld => ?_)
              clear hS0
              obtain ⟨y0, y1⟩ := HED.out.ky.cells
              have u0 := Rt.row_frozen HED.out.ky 0
              have u1 := Rt.row_frozen HED.out.ky 1
              generalize w12.drew = wd at *
              refine wpAnyH_take (i := 0) (oi := { dst := some 72, op := Op.move (Operand.tmp 11), type := _, pos := _, after := _, guard := none }) (v := .int .i64 1) rfl (by kernel_rfl) (by kernel_rfl) (by kernel_rfl) (fun _ _ _ h => h) (Or.inl ⟨by rfl, fun w hSw => by (try dsimp only at hSw); go_simp⟩) (by assumption) ?_
              simp only [Act.put, List.setIfInBounds_toArray, List.set_cons_zero, List.set_cons_succ]
              refine wpAnyH_take (i := 1) (oi := { dst := some 73, op := Op.indexAddr 101 (Operand.tmp 6) (Operand.tmp 72), type := _, pos := _, after := _, guard := none }) (v := .pointer (some ⟨A, 1, none⟩)) rfl (by kernel_rfl) (by kernel_rfl) (by kernel_rfl) (fun _ _ _ h => h) (Or.inl ⟨by rfl, fun w hSw => by (try dsimp only at hSw); go_simp⟩) (by assumption) ?_
              simp only [Act.put, List.setIfInBounds_toArray, List.set_cons_zero, List.set_cons_succ]
              refine wpAnyH_take (i := 2) (oi := { dst := some 74, op := Op.load 3 (Operand.tmp 73), type := _, pos := _, after := _, guard := none }) (v := .int .i64 n1) rfl (by kernel_rfl) (by kernel_rfl) (by kernel_rfl) (fun _ _ _ h => h) (Or.inl ⟨by rfl, fun w hSw => by obtain ⟨c0, c1, c2⟩ := hSw.2.cells; clear hSw y0 y1 u0 u1; go_simp⟩) (by assumption) ?_
              simp only [Act.put, List.setIfInBounds_toArray, List.set_cons_zero, List.set_cons_succ]
              refine wpAnyH_take (i := 3) (oi := { dst := some 75, op := Op.load 23 (Operand.tmp 15), type := _, pos := _, after := _, guard := none }) (v := .agg #[.int .i64 z2, .int .i64 z3]) rfl (by kernel_rfl) (by kernel_rfl) (by kernel_rfl) (fun _ _ _ h => h) (Or.inl ⟨by rfl, fun w hSw => by obtain ⟨c0, c1⟩ := hSw.1.cells; clear hSw y0 y1 u0 u1; go_simp⟩) (by assumption) ?_
              simp only [Act.put, List.setIfInBounds_toArray, List.set_cons_zero, List.set_cons_succ]
              refine wpAnyH_take (i := 4) (oi := { dst := some 9, op := Op.assign (Operand.tmp 74), type := _, pos := _, after := _, guard := none }) (v := .int .i64 n1) rfl (by kernel_rfl) (by kernel_rfl) (by kernel_rfl) (fun _ _ _ h => h) (Or.inl ⟨by rfl, fun w hSw => by (try dsimp only at hSw); go_simp⟩) (by assumption) ?_
              simp only [Act.put, List.setIfInBounds_toArray, List.set_cons_zero, List.set_cons_succ]
              refine wpAnyH_ready (rs := [5]) (by kernel_rfl) (by simp) ?_
              refine AllReadyH.cons rfl (fun K hK => ?_) AllReadyH.nil
              go_simp
              refine hK.out _ _ ⟨two_other hHeld.1 HFY.out _ _ _ _, two_other hHeld.2 HAY.out _ _ _ _⟩ (fun hHeld2 => ?_)
              clear hHeld
              clear hK K
              try simp only [Act.put, List.setIfInBounds_toArray, List.set_cons_zero, List.set_cons_succ]
              refine wpAnyH_done (by kernel_rfl) ?_ _
              clear y0 y1 u0 u1 hHeld2
              have hE13 := HED.out.setY ⟨z2, z3⟩
              clear HED HFY HAY
              dsimp only at hE13
              generalize (wd.setCell ⟨Y, 0, none⟩ (.int .i64 z2)).setCell ⟨Y, 1, none⟩ (.int .i64 z3) = w13 at *
              go_wp2_with fail
              go_roundw
              case rel => exact ⟨2, by omega, rfl, rfl, hE13, fun _ => Z0.out, fun _ => ⟨by first | rfl | trivial, HGZ.out⟩, fun h => by omega⟩
              case measure => simp [intOf]
            | false =>
              have hO := Rt.rOpen_off z0 z1 z2 z3 kw.bas kw.stp (Rt.gd_iff.1 HGB.out.1) (Rt.gd_iff.1 HGB.out.2) (Rt.gd_iff.1 HGW.out) hop
              have HXI : Hid (x1 = (5, zK)) := by have := HP.out; rw [hop] at this; exact this
              have HER : ER = 5 := HR1.out _ Z0.out.1 (by rw [HXI.out]) (by decide)
              have HERH : Hid (ER = 5) := HER
              clear HP hop HGB HGW HER
              go_wp2_with fail
              refine (hO _).mono ?_
              rintro e w10 ⟨rfl, hb10⟩
              have hE10 := hE9.later (Wi.Below.join hb10 (below_alloc w10 (.cells #[.int .i64 0, .int .i64 0] 23)))
              clear hO hE9 hX9 hV9 hb10 q0 q1 q2 q3 v0 v1
              go_upto_region 15 with (fail)
              generalize w10.alloc (.cells #[.int .i64 0, .int .i64 0] 23) = w11 at *
              generalize w10.heap.size = F at *
              have hre := hE10.re
              go_wp2_with (first | (refine ldMb hE10.mb rfl _ rfl rfl rfl ?_) | (refine stMb hre rfl rfl _ _ rfl rfl rfl ?_))
              refine bodyPost_ret (resRow (p := 4) (t := 5) rfl _ _ K (mba (pt0 m x0.2)) rfl (hre.row (pt0 m x0.2)).var) rfl ?_
              exact ⟨HNO.out 5 HERH.out (by decide) _, Rt.setRow_below hE10.gK hE10.bel _⟩
          | false =>
            obtain ⟨hlow, hnone⟩ := HLOW.out rfl
            clear HOWN HLOW HEN
            have hf2 := fun W (hW : RL W r aL aJ aI) => HFI.out n1 n0 W hW
            obtain ⟨b2, hb2⟩ : ∃ b, fsB r.2.2.2 n1 n0 = b := ⟨_, rfl⟩
            obtain ⟨o2, ho2⟩ : ∃ o, fsO r.2.2.2 n1 n0 = o := ⟨_, rfl⟩
            simp only [hb2, ho2] at hf2
            rw [hb2, ho2] at hlow
            rw [ho2] at hnone
            clear hb2 ho2
            unfold bxa at hf2
            have HF2 : Hid _ := hf2
            have HLW : Hid _ := hlow
            have HNN : Hid _ := hnone
            clear hf2 hlow hnone
            go_upto_region 10 with (fail)
            go_cut [13] (fun s13 wx => s13 = .bool o2 ∧ ES w wx B D K A Y (pt0 m x0.2) r aL aJ aI cL cJ cI n0 n1 n2 x0.2 ∧ BA wx X b2 ∧ KyAt wx V m.lf)
            case first =>
              have HX9 : Hid (BA w9 X b1) := hX9
              have HV9 : Hid (KyAt w9 V m.lf) := hV9
              have hS0 : ES w w9.drew B D K A Y (pt0 m x0.2) r aL aJ aI cL cJ cI n0 n1 n2 x0.2 := hE9.later (drew_below _)
              have HXD : Hid (BA w9.drew X b1) := hX9.later (drew_below _)
              have HVD : Hid (KyAt w9.drew V m.lf) := hV9.later (drew_below _)
              have HGX : Hid (w.heap.size ≤ X) := gX8
              clear hX9 hV9 hE9 HX9 HV9
              refine wp_region_held_drew (S := fun W => ES w W B D K A Y (pt0 m x0.2) r aL aJ aI cL cJ cI n0 n1 n2 x0.2) (by kernel_rfl) hS0 (fun hHeld => ?_)
              clear hS0
              generalize w9.drew = wd at *
              refine wpAnyH_take (i := 0) (oi := { dst := some 47, op := Op.load 31 (Operand.tmp 3), type := _, pos := _, after := _, guard := none }) (v := .agg #[.int .i64 r.1, .slice aL r.2.1.length cL, .slice aJ r.2.2.1.length cJ, .slice aI r.2.2.2.length cI]) rfl (by kernel_rfl) (by kernel_rfl) (by kernel_rfl) (fun _ _ _ h => h) (Or.inl ⟨by rfl, fun w hSw => rk_exec hSw.rk rfl rfl⟩) (by assumption) ?_
              simp only [Act.put, List.setIfInBounds_toArray, List.set_cons_zero, List.set_cons_succ]
              refine wpAnyH_take (i := 1) (oi := { dst := some 48, op := Op.move (Operand.tmp 11), type := _, pos := _, after := _, guard := none }) (v := .int .i64 1) rfl (by kernel_rfl) (by kernel_rfl) (by kernel_rfl) (fun _ _ _ h => h) (Or.inl ⟨by rfl, fun w hSw => by (try dsimp only at hSw); go_simp⟩) (by assumption) ?_
              simp only [Act.put, List.setIfInBounds_toArray, List.set_cons_zero, List.set_cons_succ]
              refine wpAnyH_take (i := 2) (oi := { dst := some 49, op := Op.indexAddr 101 (Operand.tmp 6) (Operand.tmp 48), type := _, pos := _, after := _, guard := none }) (v := .pointer (some ⟨A, 1, none⟩)) rfl (by kernel_rfl) (by kernel_rfl) (by kernel_rfl) (fun _ _ _ h => h) (Or.inl ⟨by rfl, fun w hSw => by (try dsimp only at hSw); go_simp⟩) (by assumption) ?_
              simp only [Act.put, List.setIfInBounds_toArray, List.set_cons_zero, List.set_cons_succ]
              refine wpAnyH_take (i := 3) (oi := { dst := some 50, op := Op.load 3 (Operand.tmp 49), type := _, pos := _, after := _, guard := none }) (v := .int .i64 n1) rfl (by kernel_rfl) (by kernel_rfl) (by kernel_rfl) (fun _ _ _ h => h) (Or.inl ⟨by rfl, fun w hSw => by obtain ⟨c0, c1, c2⟩ := hSw.nd.cells; clear hSw; go_simp⟩) (by assumption) ?_
              simp only [Act.put, List.setIfInBounds_toArray, List.set_cons_zero, List.set_cons_succ]
              refine wpAnyH_take (i := 4) (oi := { dst := some 51, op := Op.move (Operand.tmp 9), type := _, pos := _, after := _, guard := none }) (v := .int .i64 n0) rfl (by kernel_rfl) (by kernel_rfl) (by kernel_rfl) (fun _ _ _ h => h) (Or.inl ⟨by rfl, fun w hSw => by (try dsimp only at hSw); go_simp⟩) (by assumption) ?_
              simp only [Act.put, List.setIfInBounds_toArray, List.set_cons_zero, List.set_cons_succ]
              refine wpAnyH_ready (rs := [5]) (by kernel_rfl) (by simp) ?_
              refine AllReadyH.cons rfl (fun K hK => ?_) AllReadyH.nil
              go_simp
              refine (HF2.out _ (HRL.out.later hHeld.bel)).mono ?_
              rintro e w10 ⟨rfl, hb10⟩
              go_wp2_with fail
              have hX10 := HXD.out.later hb10
              have hV10 := HVD.out.later hb10
              refine hK.out _ _ (hHeld.later hb10) (fun hHeld2 => ?_)
              clear hHeld hb10
              clear hK K
              try simp only [Act.put, List.setIfInBounds_toArray, List.set_cons_zero, List.set_cons_succ]
              refine wpAnyH_take (i := 6) (oi := { dst := some 46, op := Op.move (Operand.tmp 52), type := _, pos := _, after := _, guard := none }) (v := .tuple #[.agg #[.int .i64 b2.1.1, .int .i64 b2.1.2, .int .i64 b2.2.1, .int .i64 b2.2.2], .bool o2]) rfl (by kernel_rfl) (by kernel_rfl) (by kernel_rfl) (fun _ _ _ h => h) (Or.inl ⟨by rfl, fun w hSw => by (try dsimp only at hSw); go_simp⟩) (by assumption) ?_
              simp only [Act.put, List.setIfInBounds_toArray, List.set_cons_zero, List.set_cons_succ]
              refine wpAnyH_take (i := 7) (oi := { dst := some 53, op := Op.extract (Operand.tmp 46) 0, type := _, pos := _, after := _, guard := none }) (v := .agg #[.int .i64 b2.1.1, .int .i64 b2.1.2, .int .i64 b2.2.1, .int .i64 b2.2.2]) rfl (by kernel_rfl) (by kernel_rfl) (by kernel_rfl) (fun _ _ _ h => h) (Or.inl ⟨by rfl, fun w hSw => by (try dsimp only at hSw); go_simp⟩) (by assumption) ?_
              simp only [Act.put, List.setIfInBounds_toArray, List.set_cons_zero, List.set_cons_succ]
              refine wpAnyH_take (i := 8) (oi := { dst := some 54, op := Op.extract (Operand.tmp 46) 1, type := _, pos := _, after := _, guard := none }) (v := .bool o2) rfl (by kernel_rfl) (by kernel_rfl) (by kernel_rfl) (fun _ _ _ h => h) (Or.inl ⟨by rfl, fun w hSw => by (try dsimp only at hSw); go_simp⟩) (by assumption) ?_
              simp only [Act.put, List.setIfInBounds_toArray, List.set_cons_zero, List.set_cons_succ]
              refine wpAnyH_ready (rs := [9]) (by kernel_rfl) (by simp) ?_
              refine AllReadyH.cons rfl (fun Kc hK => ?_) AllReadyH.nil
              refine if_wp rfl (wp_stRow0 58 _ _ rfl _ (bxa b2) rfl rfl 58 _ hX10 infoBx4 rfl (by simp [bxa, Value.oneCell']) rfl ?_)
              have hXZ := Rt.heap_setRow_same hX10 (bxa b2)
              have hVZ : KyAt (w10.setRow X (bxa b2)) V m.lf := (Rt.row_other (block_ne hV10 hX10 (by decide)) _).trans hV10
              refine hK.out _ _ (hHeld2.box hX10 HGX.out _) (fun hHeld3 => ?_)
              clear hHeld2
              clear hK Kc
              try simp only [Act.put, List.setIfInBounds_toArray, List.set_cons_zero, List.set_cons_succ]
              refine wpAnyH_take (i := 10) (oi := { dst := some 13, op := Op.assign (Operand.tmp 54), type := _, pos := _, after := _, guard := none }) (v := .bool o2) rfl (by kernel_rfl) (by kernel_rfl) (by kernel_rfl) (fun _ _ _ h => h) (Or.inl ⟨by rfl, fun w hSw => by (try dsimp only at hSw); go_simp⟩) (by assumption) ?_
              simp only [Act.put, List.setIfInBounds_toArray, List.set_cons_zero, List.set_cons_succ]
              refine wpAnyH_done (by kernel_rfl) ?_ _
              go_wp2_with fail
              go_meet
              case rel => exact ⟨rfl, hHeld3, hXZ, hVZ⟩
            case rest =>
              obtain ⟨rfl, hEc, hXc, hVc⟩ := hcut
              clear hE9 hX9 hV9 HF2
              obtain ⟨y0, y1⟩ := hEc.ky.cells
              go_upto_region 12 with (refine stKy hVc x0.2 rfl _ _ rfl rfl rfl ?_)
              clear y0 y1
              have hE9 := hEc.key hVc hVY gV #[.int .i64 x0.2.bas, .int .i64 x0.2.stp]
              have hX9 : BA (wc.setRow V #[.int .i64 x0.2.bas, .int .i64 x0.2.stp]) X b2 := (Rt.row_other hXV _).trans hXc
              have hV9 := KyAt.row hVc x0.2
              clear hEc hXc hVc
              generalize wc.setRow V #[.int .i64 x0.2.bas, .int .i64 x0.2.stp] = w9 at *
              cases o2 with
              | false =>
                have HXI : Hid (x1 = (23, zK)) := HNN.out rfl
                have HER : ER = 23 := HR1.out _ Z0.out.1 (by rw [HXI.out]) (by decide)
                have hre := hE9.re
                clear HLW HNN
                go_wp2_with (first | (refine ldMb hE9.mb rfl _ rfl rfl rfl ?_) | (refine stMb hre rfl rfl _ _ rfl rfl rfl ?_))
                refine bodyPost_ret (resRow (p := 4) (t := 5) rfl _ _ K (mba (pt0 m x0.2)) rfl (hre.row (pt0 m x0.2)).var) rfl ?_
                exact ⟨HNO.out 23 HER (by decide) _, Rt.setRow_below hE9.gK hE9.bel _⟩
              | true =>
                obtain ⟨hfst, hxe⟩ := HLW.out rfl
                have HP : Hid (x1 = if opn b2 x0.2 then (0, ldK b2) else (5, zK)) := hxe
                have HGB : Hid (gK b2.1 = true ∧ gK b2.2 = true) := fst_good HI.out hfst
                have HGW : Hid (gk x0.2 = true) := Z0.out.2
                clear hfst hxe HLW HNN
                go_upto_region 14 with (fail)
                obtain ⟨bb, hbb⟩ : ∃ b, b2 = b := ⟨_, rfl⟩
                obtain ⟨kw, hkw⟩ : ∃ b, x0.2 = b := ⟨_, rfl⟩
                have hT : BA w9 X bb ∧ KyAt w9 V kw := ⟨hbb ▸ hX9, hkw ▸ hV9⟩
                have HP : Hid (x1 = if opn bb kw then (0, ldK bb) else (5, zK)) := by rw [← hbb, ← hkw]; exact HP.out
                have HGB : Hid (gK bb.1 = true ∧ gK bb.2 = true) := by rw [← hbb]; exact HGB.out
                have HGW : Hid (gk kw = true) := by rw [← hkw]; exact HGW.out
                clear hbb hkw hX9 hV9
                obtain ⟨hX9, hV9⟩ := hT
                obtain ⟨⟨z0, z1⟩, z2, z3⟩ := bb
                obtain ⟨q0, q1, q2, q3⟩ := hX9.cells
                obtain ⟨v0, v1⟩ := hV9.cells
                dsimp only at q0 q1 q2 q3
                cases hop : opn ((z0, z1), (z2, z3)) kw with
                | true =>
                  have hO := Rt.rOpen_yes z0 z1 z2 z3 kw.bas kw.stp (Rt.gd_iff.1 HGB.out.1) (Rt.gd_iff.1 HGB.out.2) (Rt.gd_iff.1 HGW.out) hop
                  have hxi : x1 = (0, ⟨z2, z3⟩) := by have := HP.out; rw [hop] at this; exact this
                  have HGZ : Hid (gk ⟨z2, z3⟩ = true) := HGB.out.2
                  clear HP hop HGB HGW
                  subst hxi
                  go_wp2_with fail
                  refine (hO _).mono ?_
                  rintro e w10 ⟨rfl, hb10⟩
                  have hb10' := Wi.Below.join hb10 (below_alloc w10 (.cells #[.int .i64 z2, .int .i64 z3] 23))
                  have hE10 := hE9.later hb10'
                  have hF10 : KyAt (w10.alloc (.cells #[.int .i64 z2, .int .i64 z3] 23)) w10.heap.size ⟨z2, z3⟩ := KyAt.new w10 ⟨z2, z3⟩
                  have hFY : w10.heap.size ≠ Y := Nat.ne_of_gt (hE9.later hb10).ky.lt
                  have hFB : w10.heap.size ≠ B := Nat.ne_of_gt (hE9.later hb10).mb.lt
                  clear hO hE9 hX9 hV9 hb10 hb10' q0 q1 q2 q3 v0 v1
                  go_upto_region 15 with (fail)
                  generalize w10.alloc (.cells #[.int .i64 z2, .int .i64 z3] 23) = w11 at *
                  generalize w10.heap.size = F at *
                  obtain ⟨⟨a0, a1⟩, ⟨a2, a3⟩, a4, a5⟩ := hE10.mb.key
                  have g0 := hE10.mb.fr 7
                  have g1 := hE10.mb.fr 8
                  obtain ⟨f0, f1⟩ := hF10.cells
                  go_upto_region 18 with (fail)
                  have hE11 := hE10.set1 ⟨z2, z3⟩
                  have hF11 : KyAt ((w11.setCell ⟨B, 7, none⟩ (.int .i64 z2)).setCell ⟨B, 8, none⟩ (.int .i64 z3)) F ⟨z2, z3⟩ := two_other hF10 hFB _ _ _ _
                  clear hE10 hF10 a0 a1 a2 a3 a4 a5 g0 g1 f0 f1 hFB
                  dsimp only at hE11
                  generalize (w11.setCell ⟨B, 7, none⟩ (.int .i64 z2)).setCell ⟨B, 8, none⟩ (.int .i64 z3) = w12 at *
                  have hED := hE11.later (drew_below _)
                  have hFD := hF11.later (drew_below _)
                  clear hE11 hF11
                  have HED : Hid _ := hED
                  have HFY : Hid (F ≠ Y) := hFY
                  have HAY : Hid (A ≠ Y) := block_ne hED.nd hED.ky (by decide)
                  have hS0 : KyAt w12.drew F ⟨z2, z3⟩ ∧ N3 w12.drew A n0 n1 n2 := ⟨hFD, hED.nd⟩
                  clear hED hFD hFY
                  refine wp_region_held_drew (S := fun W => KyAt W F ⟨z2, z3⟩ ∧ N3 W A n0 n1 n2) (by kernel_rfl) hS0 (fun hHeld => ?_)
                  clear hS0
                  obtain ⟨y0, y1⟩ := HED.out.ky.cells
                  have u0 := Rt.row_frozen HED.out.ky 0
                  have u1 := Rt.row_frozen HED.out.ky 1
                  generalize w12.drew = wd at *
                  refine wpAnyH_take (i := 0) (oi := { dst := some 72, op := Op.move (Operand.tmp 11), type := _, pos := _, after := _, guard := none }) (v := .int .i64 1) rfl (by kernel_rfl) (by kernel_rfl) (by kernel_rfl) (fun _ _ _ h => h) (Or.inl ⟨by rfl, fun w hSw => by (try dsimp only at hSw); go_simp⟩) (by assumption) ?_
                  simp only [Act.put, List.setIfInBounds_toArray, List.set_cons_zero, List.set_cons_succ]
                  refine wpAnyH_take (i := 1) (oi := { dst := some 73, op := Op.indexAddr 101 (Operand.tmp 6) (Operand.tmp 72), type := _, pos := _, after := _, guard := none }) (v := .pointer (some ⟨A, 1, none⟩)) rfl (by kernel_rfl) (by kernel_rfl) (by kernel_rfl) (fun _ _ _ h => h) (Or.inl ⟨by rfl, fun w hSw => by (try dsimp only at hSw); go_simp⟩) (by assumption) ?_
                  simp only [Act.put, List.setIfInBounds_toArray, List.set_cons_zero, List.set_cons_succ]
                  refine wpAnyH_take (i := 2) (oi := { dst := some 74, op := Op.load 3 (Operand.tmp 73), type := _, pos := _, after := _, guard := none }) (v := .int .i64 n1) rfl (by kernel_rfl) (by kernel_rfl) (by kernel_rfl) (fun _ _ _ h => h) (Or.inl ⟨by rfl, fun w hSw => by obtain ⟨c0, c1, c2⟩ := hSw.2.cells; clear hSw y0 y1 u0 u1; go_simp⟩) (by assumption) ?_
                  simp only [Act.put, List.setIfInBounds_toArray, List.set_cons_zero, List.set_cons_succ]
                  refine wpAnyH_take (i := 3) (oi := { dst := some 75, op := Op.load 23 (Operand.tmp 15), type := _, pos := _, after := _, guard := none }) (v := .agg #[.int .i64 z2, .int .i64 z3]) rfl (by kernel_rfl) (by kernel_rfl) (by kernel_rfl) (fun _ _ _ h => h) (Or.inl ⟨by rfl, fun w hSw => by obtain ⟨c0, c1⟩ := hSw.1.cells; clear hSw y0 y1 u0 u1; go_simp⟩) (by assumption) ?_
                  simp only [Act.put, List.setIfInBounds_toArray, List.set_cons_zero, List.set_cons_succ]
                  refine wpAnyH_take (i := 4) (oi := { dst := some 9, op := Op.assign (Operand.tmp 74), type := _, pos := _, after := _, guard := none }) (v := .int .i64 n1) rfl (by kernel_rfl) (by kernel_rfl) (by kernel_rfl) (fun _ _ _ h => h) (Or.inl ⟨by rfl, fun w hSw => by (try dsimp only at hSw); go_simp⟩) (by assumption) ?_
                  simp only [Act.put, List.setIfInBounds_toArray, List.set_cons_zero, List.set_cons_succ]
                  refine wpAnyH_ready (rs := [5]) (by kernel_rfl) (by simp) ?_
                  refine AllReadyH.cons rfl (fun K hK => ?_) AllReadyH.nil
                  go_simp
                  refine hK.out _ _ ⟨two_other hHeld.1 HFY.out _ _ _ _, two_other hHeld.2 HAY.out _ _ _ _⟩ (fun hHeld2 => ?_)
                  clear hHeld
                  clear hK K
                  try simp only [Act.put, List.setIfInBounds_toArray, List.set_cons_zero, List.set_cons_succ]
                  refine wpAnyH_done (by kernel_rfl) ?_ _
                  clear y0 y1 u0 u1 hHeld2
                  have hE13 := HED.out.setY ⟨z2, z3⟩
                  clear HED HFY HAY
                  dsimp only at hE13
                  generalize (wd.setCell ⟨Y, 0, none⟩ (.int .i64 z2)).setCell ⟨Y, 1, none⟩ (.int .i64 z3) = w13 at *
                  go_wp2_with fail
                  go_roundw
                  case rel => exact ⟨2, by omega, rfl, rfl, hE13, fun _ => Z0.out, fun _ => ⟨by first | rfl | trivial, HGZ.out⟩, fun h => by omega⟩
                  case measure => simp [intOf]
                | false =>
                  have hO := Rt.rOpen_off z0 z1 z2 z3 kw.bas kw.stp (Rt.gd_iff.1 HGB.out.1) (Rt.gd_iff.1 HGB.out.2) (Rt.gd_iff.1 HGW.out) hop
                  have HXI : Hid (x1 = (5, zK)) := by have := HP.out; rw [hop] at this; exact this
                  have HER : ER = 5 := HR1.out _ Z0.out.1 (by rw [HXI.out]) (by decide)
                  have HERH : Hid (ER = 5) := HER
                  clear HP hop HGB HGW HER
                  go_wp2_with fail
                  refine (hO _).mono ?_
                  rintro e w10 ⟨rfl, hb10⟩
                  have hE10 := hE9.later (Wi.Below.join hb10 (below_alloc w10 (.cells #[.int .i64 0, .int .i64 0] 23)))
                  clear hO hE9 hX9 hV9 hb10 q0 q1 q2 q3 v0 v1
                  go_upto_region 15 with (fail)
                  generalize w10.alloc (.cells #[.int .i64 0, .int .i64 0] 23) = w11 at *
                  generalize w10.heap.size = F at *
                  have hre := hE10.re
                  go_wp2_with (first | (refine ldMb hE10.mb rfl _ rfl rfl rfl ?_) | (refine stMb hre rfl rfl _ _ rfl rfl rfl ?_))
                  refine bodyPost_ret (resRow (p := 4) (t := 5) rfl _ _ K (mba (pt0 m x0.2)) rfl (hre.row (pt0 m x0.2)).var) rfl ?_
                  exact ⟨HNO.out 5 HERH.out (by decide) _, Rt.setRow_below hE10.gK hE10.bel _⟩
      · have hE : ES w wr B D K A Y (pt1 (pt0 m x0.2) x1.2) r aL aJ aI cL cJ cI n0 n1 n2 x1.2 := hE
        have hf : sel q n0 n1 n2 2 = n1 := rfl
        rw [hf]
        have Z0 : Hid (x0.1 = 0 ∧ gk x0.2 = true) := p1 (by omega)
        have Z1 : Hid (x1.1 = 0 ∧ gk x1.2 = true) := p2 (by omega)
        clear hf p1 p2 p3
        obtain ⟨b1, hb1⟩ : ∃ b, fsB r.2.2.2 n2 q = b := ⟨_, rfl⟩
        obtain ⟨o1, ho1⟩ : ∃ o, fsO r.2.2.2 n2 q = o := ⟨_, rfl⟩
        have hf1 := fun W (hW : RL W r aL aJ aI) => HFI.out n2 q W hW
        simp only [hb1, ho1] at hf1
        have HEN : Hid (x2 = enP r.2.2.2 n2 q n1 m.lf x1.2) := E2.out
        have HOWN : Hid (o1 = true → fstI r.2.2.2 n2 q = some b1 ∧ x2 = if opn b1 m.lf then (0, ldK b1) else (5, zK)) := fun h => by
          rw [HEN.out, ← hb1]
          rw [← ho1] at h
          exact ⟨fs_yes h, en_own h⟩
        have HLOW : Hid (o1 = false → (fsO r.2.2.2 n2 n1 = true → fstI r.2.2.2 n2 n1 = some (fsB r.2.2.2 n2 n1) ∧ x2 = if opn (fsB r.2.2.2 n2 n1) x1.2 then (0, ldK (fsB r.2.2.2 n2 n1)) else (5, zK)) ∧ (fsO r.2.2.2 n2 n1 = false → x2 = (23, zK))) := fun h => by
          rw [HEN.out]
          rw [← ho1] at h
          exact ⟨fun h2 => ⟨fs_yes h2, en_low h h2⟩, fun h2 => en_none h h2⟩
        clear hb1 ho1
        unfold bxa at hf1
        have HF1 : Hid _ := hf1
        clear hf1
        go_upto_region 7 with (fail)
        go_cut [12, 13] (fun s12 s13 wx => ∃ X, s12 = .pointer (some ⟨X, 0, none⟩) ∧ s13 = .bool o1 ∧ ES w wx B D K A Y (pt1 (pt0 m x0.2) x1.2) r aL aJ aI cL cJ cI n0 n1 n2 x1.2 ∧ BA wx X b1 ∧ w.heap.size ≤ X)
        case first =>
          have hS0 : ES w wr.drew B D K A Y (pt1 (pt0 m x0.2) x1.2) r aL aJ aI cL cJ cI n0 n1 n2 x1.2 := hE.later (drew_below _)
          clear hE
          refine wp_region_held_drew (S := fun W => ES w W B D K A Y (pt1 (pt0 m x0.2) x1.2) r aL aJ aI cL cJ cI n0 n1 n2 x1.2) (by kernel_rfl) hS0 (fun hHeld => ?_)
          clear hS0
          generalize wr.drew = wd at *
          refine wpAnyH_take (i := 0) (oi := { dst := some 34, op := Op.load 31 (Operand.tmp 3), type := _, pos := _, after := _, guard := none }) (v := .agg #[.int .i64 r.1, .slice aL r.2.1.length cL, .slice aJ r.2.2.1.length cJ, .slice aI r.2.2.2.length cI]) rfl (by kernel_rfl) (by kernel_rfl) (by kernel_rfl) (fun _ _ _ h => h) (Or.inl ⟨by rfl, fun w hSw => rk_exec hSw.rk rfl rfl⟩) (by assumption) ?_
          simp only [Act.put, List.setIfInBounds_toArray, List.set_cons_zero, List.set_cons_succ]
          refine wpAnyH_take (i := 1) (oi := { dst := some 35, op := Op.move (Operand.tmp 11), type := _, pos := _, after := _, guard := none }) (v := .int .i64 2) rfl (by kernel_rfl) (by kernel_rfl) (by kernel_rfl) (fun _ _ _ h => h) (Or.inl ⟨by rfl, fun w hSw => by (try dsimp only at hSw); go_simp⟩) (by assumption) ?_
          simp only [Act.put, List.setIfInBounds_toArray, List.set_cons_zero, List.set_cons_succ]
          refine wpAnyH_take (i := 2) (oi := { dst := some 36, op := Op.indexAddr 101 (Operand.tmp 6) (Operand.tmp 35), type := _, pos := _, after := _, guard := none }) (v := .pointer (some ⟨A, 2, none⟩)) rfl (by kernel_rfl) (by kernel_rfl) (by kernel_rfl) (fun _ _ _ h => h) (Or.inl ⟨by rfl, fun w hSw => by (try dsimp only at hSw); go_simp⟩) (by assumption) ?_
          simp only [Act.put, List.setIfInBounds_toArray, List.set_cons_zero, List.set_cons_succ]
          refine wpAnyH_take (i := 3) (oi := { dst := some 37, op := Op.load 3 (Operand.tmp 36), type := _, pos := _, after := _, guard := none }) (v := .int .i64 n2) rfl (by kernel_rfl) (by kernel_rfl) (by kernel_rfl) (fun _ _ _ h => h) (Or.inl ⟨by rfl, fun w hSw => by obtain ⟨c0, c1, c2⟩ := hSw.nd.cells; clear hSw; go_simp⟩) (by assumption) ?_
          simp only [Act.put, List.setIfInBounds_toArray, List.set_cons_zero, List.set_cons_succ]
          refine wpAnyH_take (i := 4) (oi := { dst := some 38, op := Op.move (Operand.tmp 8), type := _, pos := _, after := _, guard := none }) (v := .int .i64 q) rfl (by kernel_rfl) (by kernel_rfl) (by kernel_rfl) (fun _ _ _ h => h) (Or.inl ⟨by rfl, fun w hSw => by (try dsimp only at hSw); go_simp⟩) (by assumption) ?_
          simp only [Act.put, List.setIfInBounds_toArray, List.set_cons_zero, List.set_cons_succ]
          refine wpAnyH_ready (rs := [5, 9]) (by kernel_rfl) (by simp) ?_
          refine (AllReadyH.cons rfl (fun K hK => ?_) (AllReadyH.cons rfl (fun K hK => ?_) AllReadyH.nil))
          · go_simp
            refine (HF1.out _ (HRL.out.later hHeld.bel)).mono ?_
            rintro e w7 ⟨rfl, hb7⟩
            go_wp2_with fail
            try (have hz := hz.later hb7)
            refine hK.out _ _ (hHeld.later hb7) (fun hHd1 => ?_)
            clear hHeld hb7
            clear hK K
            try simp only [Act.put, List.setIfInBounds_toArray, List.set_cons_zero, List.set_cons_succ]
            refine wpAnyH_take (i := 6) (oi := { dst := some 33, op := Op.move (Operand.tmp 39), type := _, pos := _, after := _, guard := none }) (v := .tuple #[.agg #[.int .i64 b1.1.1, .int .i64 b1.1.2, .int .i64 b1.2.1, .int .i64 b1.2.2], .bool o1]) rfl (by kernel_rfl) (by kernel_rfl) (by kernel_rfl) (fun _ _ _ h => h) (Or.inl ⟨by rfl, fun w hSw => by (try dsimp only at hSw); go_simp⟩) (by assumption) ?_
            simp only [Act.put, List.setIfInBounds_toArray, List.set_cons_zero, List.set_cons_succ]
            refine wpAnyH_take (i := 7) (oi := { dst := some 40, op := Op.extract (Operand.tmp 33) 0, type := _, pos := _, after := _, guard := none }) (v := .agg #[.int .i64 b1.1.1, .int .i64 b1.1.2, .int .i64 b1.2.1, .int .i64 b1.2.2]) rfl (by kernel_rfl) (by kernel_rfl) (by kernel_rfl) (fun _ _ _ h => h) (Or.inl ⟨by rfl, fun w hSw => by (try dsimp only at hSw); go_simp⟩) (by assumption) ?_
            simp only [Act.put, List.setIfInBounds_toArray, List.set_cons_zero, List.set_cons_succ]
            refine wpAnyH_take (i := 8) (oi := { dst := some 41, op := Op.extract (Operand.tmp 33) 1, type := _, pos := _, after := _, guard := none }) (v := .bool o1) rfl (by kernel_rfl) (by kernel_rfl) (by kernel_rfl) (fun _ _ _ h => h) (Or.inl ⟨by rfl, fun w hSw => by (try dsimp only at hSw); go_simp⟩) (by assumption) ?_
            simp only [Act.put, List.setIfInBounds_toArray, List.set_cons_zero, List.set_cons_succ]
            refine wpAnyH_ready (rs := [9]) (by kernel_rfl) (by simp) ?_
            refine AllReadyH.cons rfl (fun K hK => ?_) AllReadyH.nil
            go_simp
            have hgX := hHd1.bel.size
            refine hK.out _ _ (hHd1.later (below_alloc _ _)) (fun hHd2 => ?_)
            have hz := bx_of hHd2.bel
            clear hHd1
            clear hK K
            try simp only [Act.put, List.setIfInBounds_toArray, List.set_cons_zero, List.set_cons_succ]
            refine wpAnyH_ready (rs := [10]) (by kernel_rfl) (by simp) ?_
            refine AllReadyH.cons rfl (fun Kc hK => ?_) AllReadyH.nil
            refine if_wp rfl (wp_stRow0 58 _ _ rfl _ (bxa b1) rfl rfl 58 _ hz infoBx4 rfl (by simp [bxa, Value.oneCell']) rfl ?_)
            have hzZ := Rt.heap_setRow_same hz (bxa b1)
            refine hK.out _ _ (hHd2.box hz hgX _) (fun hHd3 => ?_)
            clear hHd2
            clear hK Kc
            try simp only [Act.put, List.setIfInBounds_toArray, List.set_cons_zero, List.set_cons_succ]
            refine wpAnyH_take (i := 11) (oi := { dst := some 13, op := Op.assign (Operand.tmp 41), type := _, pos := _, after := _, guard := none }) (v := .bool o1) rfl (by kernel_rfl) (by kernel_rfl) (by kernel_rfl) (fun _ _ _ h => h) (Or.inl ⟨by rfl, fun w hSw => by (try dsimp only at hSw); go_simp⟩) (by assumption) ?_
            simp only [Act.put, List.setIfInBounds_toArray, List.set_cons_zero, List.set_cons_succ]
            refine wpAnyH_done (by kernel_rfl) ?_ _
            go_wp2_with fail
            go_meet
            case rel => exact ⟨_, rfl, rfl, hHd3, hzZ, hgX⟩
          · go_simp
            have hgX := hHeld.bel.size
            refine hK.out _ _ (hHeld.later (below_alloc _ _)) (fun hHd1 => ?_)
            have hz := bx_of hHd1.bel
            clear hHeld
            clear hK K
            try simp only [Act.put, List.setIfInBounds_toArray, List.set_cons_zero, List.set_cons_succ]
            refine wpAnyH_ready (rs := [5]) (by kernel_rfl) (by simp) ?_
            refine AllReadyH.cons rfl (fun K hK => ?_) AllReadyH.nil
            go_simp
            refine (HF1.out _ (HRL.out.later hHd1.bel)).mono ?_
            rintro e w7 ⟨rfl, hb7⟩
            go_wp2_with fail
            try (have hz := hz.later hb7)
            refine hK.out _ _ (hHd1.later hb7) (fun hHd2 => ?_)
            clear hHd1 hb7
            clear hK K
            try simp only [Act.put, List.setIfInBounds_toArray, List.set_cons_zero, List.set_cons_succ]
            refine wpAnyH_take (i := 6) (oi := { dst := some 33, op := Op.move (Operand.tmp 39), type := _, pos := _, after := _, guard := none }) (v := .tuple #[.agg #[.int .i64 b1.1.1, .int .i64 b1.1.2, .int .i64 b1.2.1, .int .i64 b1.2.2], .bool o1]) rfl (by kernel_rfl) (by kernel_rfl) (by kernel_rfl) (fun _ _ _ h => h) (Or.inl ⟨by rfl, fun w hSw => by (try dsimp only at hSw); go_simp⟩) (by assumption) ?_
            simp only [Act.put, List.setIfInBounds_toArray, List.set_cons_zero, List.set_cons_succ]
            refine wpAnyH_take (i := 7) (oi := { dst := some 40, op := Op.extract (Operand.tmp 33) 0, type := _, pos := _, after := _, guard := none }) (v := .agg #[.int .i64 b1.1.1, .int .i64 b1.1.2, .int .i64 b1.2.1, .int .i64 b1.2.2]) rfl (by kernel_rfl) (by kernel_rfl) (by kernel_rfl) (fun _ _ _ h => h) (Or.inl ⟨by rfl, fun w hSw => by (try dsimp only at hSw); go_simp⟩) (by assumption) ?_
            simp only [Act.put, List.setIfInBounds_toArray, List.set_cons_zero, List.set_cons_succ]
            refine wpAnyH_take (i := 8) (oi := { dst := some 41, op := Op.extract (Operand.tmp 33) 1, type := _, pos := _, after := _, guard := none }) (v := .bool o1) rfl (by kernel_rfl) (by kernel_rfl) (by kernel_rfl) (fun _ _ _ h => h) (Or.inl ⟨by rfl, fun w hSw => by (try dsimp only at hSw); go_simp⟩) (by assumption) ?_
            simp only [Act.put, List.setIfInBounds_toArray, List.set_cons_zero, List.set_cons_succ]
            refine wpAnyH_ready (rs := [10]) (by kernel_rfl) (by simp) ?_
            refine AllReadyH.cons rfl (fun Kc hK => ?_) AllReadyH.nil
            refine if_wp rfl (wp_stRow0 58 _ _ rfl _ (bxa b1) rfl rfl 58 _ hz infoBx4 rfl (by simp [bxa, Value.oneCell']) rfl ?_)
            have hzZ := Rt.heap_setRow_same hz (bxa b1)
            refine hK.out _ _ (hHd2.box hz hgX _) (fun hHd3 => ?_)
            clear hHd2
            clear hK Kc
            try simp only [Act.put, List.setIfInBounds_toArray, List.set_cons_zero, List.set_cons_succ]
            refine wpAnyH_take (i := 11) (oi := { dst := some 13, op := Op.assign (Operand.tmp 41), type := _, pos := _, after := _, guard := none }) (v := .bool o1) rfl (by kernel_rfl) (by kernel_rfl) (by kernel_rfl) (fun _ _ _ h => h) (Or.inl ⟨by rfl, fun w hSw => by (try dsimp only at hSw); go_simp⟩) (by assumption) ?_
            simp only [Act.put, List.setIfInBounds_toArray, List.set_cons_zero, List.set_cons_succ]
            refine wpAnyH_done (by kernel_rfl) ?_ _
            go_wp2_with fail
            go_meet
            case rel => exact ⟨_, rfl, rfl, hHd3, hzZ, hgX⟩
        case rest =>
          obtain ⟨X, rfl, rfl, hE8, hX8, gX8⟩ := hcut
          clear hE HF1
          have l0 : wc.cell? ⟨B, 3, none⟩ = some (.int .i64 m.lf.bas) := hE8.mb.leaf.1
          have l1 : wc.cell? ⟨B, 4, none⟩ = some (.int .i64 m.lf.stp) := hE8.mb.leaf.2
          have hb9 := below_alloc wc (.cells #[.int .i64 m.lf.bas, .int .i64 m.lf.stp] 23)
          have hE9 := hE8.later hb9
          have hX9 := hX8.later hb9
          have hV9 : KyAt (wc.alloc (.cells #[.int .i64 m.lf.bas, .int .i64 m.lf.stp] 23)) wc.heap.size m.lf := KyAt.new wc m.lf
          have hVY : wc.heap.size ≠ Y := Nat.ne_of_gt hE8.ky.lt
          have gV : w.heap.size ≤ wc.heap.size := hE8.bel.size
          have hXV : X ≠ wc.heap.size := Nat.ne_of_lt (Array.getElem?_eq_some_iff.1 hX8).1
          clear hE8 hX8 hb9
          go_upto_region 9 with (fail)
          generalize wc.alloc (.cells #[.int .i64 m.lf.bas, .int .i64 m.lf.stp] 23) = w9 at *
          generalize wc.heap.size = V at *
          clear l0 l1
          cases o1 with
          | true =>
            obtain ⟨hfst, hxe⟩ := HOWN.out rfl
            have HP : Hid (x2 = if opn b1 m.lf then (0, ldK b1) else (5, zK)) := hxe
            have HGB : Hid (gK b1.1 = true ∧ gK b1.2 = true) := fst_good HI.out hfst
            have HGW : Hid (gk m.lf = true) := HLF.out
            clear hfst hxe HOWN HLOW HEN
            go_upto_region 14 with (fail)
            obtain ⟨bb, hbb⟩ : ∃ b, b1 = b := ⟨_, rfl⟩
            obtain ⟨kw, hkw⟩ : ∃ b, m.lf = b := ⟨_, rfl⟩
            have hT : BA w9 X bb ∧ KyAt w9 V kw := ⟨hbb ▸ hX9, hkw ▸ hV9⟩
            have HP : Hid (x2 = if opn bb kw then (0, ldK bb) else (5, zK)) := by rw [← hbb, ← hkw]; exact HP.out
            have HGB : Hid (gK bb.1 = true ∧ gK bb.2 = true) := by rw [← hbb]; exact HGB.out
            have HGW : Hid (gk kw = true) := by rw [← hkw]; exact HGW.out
            clear hbb hkw hX9 hV9
            obtain ⟨hX9, hV9⟩ := hT
            obtain ⟨⟨z0, z1⟩, z2, z3⟩ := bb
            obtain ⟨q0, q1, q2, q3⟩ := hX9.cells
            obtain ⟨v0, v1⟩ := hV9.cells
            dsimp only at q0 q1 q2 q3
            cases hop : opn ((z0, z1), (z2, z3)) kw with
            | true =>
              have hO := Rt.rOpen_yes z0 z1 z2 z3 kw.bas kw.stp (Rt.gd_iff.1 HGB.out.1) (Rt.gd_iff.1 HGB.out.2) (Rt.gd_iff.1 HGW.out) hop
              have hxi : x2 = (0, ⟨z2, z3⟩) := by have := HP.out; rw [hop] at this; exact this
              have HGZ : Hid (gk ⟨z2, z3⟩ = true) := HGB.out.2
              clear HP hop HGB HGW
              subst hxi
              go_wp2_with fail
              refine (hO _).mono ?_
              rintro e w10 ⟨rfl, hb10⟩
              have hb10' := Wi.Below.join hb10 (below_alloc w10 (.cells #[.int .i64 z2, .int .i64 z3] 23))
              have hE10 := hE9.later hb10'
              have hF10 : KyAt (w10.alloc (.cells #[.int .i64 z2, .int .i64 z3] 23)) w10.heap.size ⟨z2, z3⟩ := KyAt.new w10 ⟨z2, z3⟩
              have hFY : w10.heap.size ≠ Y := Nat.ne_of_gt (hE9.later hb10).ky.lt
              have hFB : w10.heap.size ≠ B := Nat.ne_of_gt (hE9.later hb10).mb.lt
              clear hO hE9 hX9 hV9 hb10 hb10' q0 q1 q2 q3 v0 v1
              go_upto_region 15 with (fail)
              generalize w10.alloc (.cells #[.int .i64 z2, .int .i64 z3] 23) = w11 at *
              generalize w10.heap.size = F at *
              obtain ⟨⟨a0, a1⟩, ⟨a2, a3⟩, a4, a5⟩ := hE10.mb.key
              have g0 := hE10.mb.fr 9
              have g1 := hE10.mb.fr 10
              obtain ⟨f0, f1⟩ := hF10.cells
              go_upto_region 18 with (fail)
              have hE11 := hE10.set2 ⟨z2, z3⟩
              have hF11 : KyAt ((w11.setCell ⟨B, 9, none⟩ (.int .i64 z2)).setCell ⟨B, 10, none⟩ (.int .i64 z3)) F ⟨z2, z3⟩ := two_other hF10 hFB _ _ _ _
              clear hE10 hF10 a0 a1 a2 a3 a4 a5 g0 g1 f0 f1 hFB
              dsimp only at hE11
              generalize (w11.setCell ⟨B, 9, none⟩ (.int .i64 z2)).setCell ⟨B, 10, none⟩ (.int .i64 z3) = w12 at *
              have hED := hE11.later (drew_below _)
              have hFD := hF11.later (drew_below _)
              clear hE11 hF11
              have HED : Hid _ := hED
              have HFY : Hid (F ≠ Y) := hFY
              have HAY : Hid (A ≠ Y) := block_ne hED.nd hED.ky (by decide)
              have hS0 : KyAt w12.drew F ⟨z2, z3⟩ ∧ N3 w12.drew A n0 n1 n2 := ⟨hFD, hED.nd⟩
              clear hED hFD hFY
              refine wp_region_held_drew (S := fun W => KyAt W F ⟨z2, z3⟩ ∧ N3 W A n0 n1 n2) (by kernel_rfl) hS0 (fun hHeld => ?_)
              clear hS0
              obtain ⟨y0, y1⟩ := HED.out.ky.cells
              have u0 := Rt.row_frozen HED.out.ky 0
              have u1 := Rt.row_frozen HED.out.ky 1
              generalize w12.drew = wd at *
              refine wpAnyH_take (i := 0) (oi := { dst := some 72, op := Op.move (Operand.tmp 11), type := _, pos := _, after := _, guard := none }) (v := .int .i64 2) rfl (by kernel_rfl) (by kernel_rfl) (by kernel_rfl) (fun _ _ _ h => h) (Or.inl ⟨by rfl, fun w hSw => by (try dsimp only at hSw); go_simp⟩) (by assumption) ?_
              simp only [Act.put, List.setIfInBounds_toArray, List.set_cons_zero, List.set_cons_succ]
              refine wpAnyH_take (i := 1) (oi := { dst := some 73, op := Op.indexAddr 101 (Operand.tmp 6) (Operand.tmp 72), type := _, pos := _, after := _, guard := none }) (v := .pointer (some ⟨A, 2, none⟩)) rfl (by kernel_rfl) (by kernel_rfl) (by kernel_rfl) (fun _ _ _ h => h) (Or.inl ⟨by rfl, fun w hSw => by (try dsimp only at hSw); go_simp⟩) (by assumption) ?_
              simp only [Act.put, List.setIfInBounds_toArray, List.set_cons_zero, List.set_cons_succ]
              refine wpAnyH_take (i := 2) (oi := { dst := some 74, op := Op.load 3 (Operand.tmp 73), type := _, pos := _, after := _, guard := none }) (v := .int .i64 n2) rfl (by kernel_rfl) (by kernel_rfl) (by kernel_rfl) (fun _ _ _ h => h) (Or.inl ⟨by rfl, fun w hSw => by obtain ⟨c0, c1, c2⟩ := hSw.2.cells; clear hSw y0 y1 u0 u1; go_simp⟩) (by assumption) ?_
              simp only [Act.put, List.setIfInBounds_toArray, List.set_cons_zero, List.set_cons_succ]
              refine wpAnyH_take (i := 3) (oi := { dst := some 75, op := Op.load 23 (Operand.tmp 15), type := _, pos := _, after := _, guard := none }) (v := .agg #[.int .i64 z2, .int .i64 z3]) rfl (by kernel_rfl) (by kernel_rfl) (by kernel_rfl) (fun _ _ _ h => h) (Or.inl ⟨by rfl, fun w hSw => by obtain ⟨c0, c1⟩ := hSw.1.cells; clear hSw y0 y1 u0 u1; go_simp⟩) (by assumption) ?_
              simp only [Act.put, List.setIfInBounds_toArray, List.set_cons_zero, List.set_cons_succ]
              refine wpAnyH_take (i := 4) (oi := { dst := some 9, op := Op.assign (Operand.tmp 74), type := _, pos := _, after := _, guard := none }) (v := .int .i64 n2) rfl (by kernel_rfl) (by kernel_rfl) (by kernel_rfl) (fun _ _ _ h => h) (Or.inl ⟨by rfl, fun w hSw => by (try dsimp only at hSw); go_simp⟩) (by assumption) ?_
              simp only [Act.put, List.setIfInBounds_toArray, List.set_cons_zero, List.set_cons_succ]
              refine wpAnyH_ready (rs := [5]) (by kernel_rfl) (by simp) ?_
              refine AllReadyH.cons rfl (fun K hK => ?_) AllReadyH.nil
              go_simp
              refine hK.out _ _ ⟨two_other hHeld.1 HFY.out _ _ _ _, two_other hHeld.2 HAY.out _ _ _ _⟩ (fun hHeld2 => ?_)
              clear hHeld
              clear hK K
              try simp only [Act.put, List.setIfInBounds_toArray, List.set_cons_zero, List.set_cons_succ]
              refine wpAnyH_done (by kernel_rfl) ?_ _
              clear y0 y1 u0 u1 hHeld2
              have hE13 := HED.out.setY ⟨z2, z3⟩
              clear HED HFY HAY
              dsimp only at hE13
              generalize (wd.setCell ⟨Y, 0, none⟩ (.int .i64 z2)).setCell ⟨Y, 1, none⟩ (.int .i64 z3) = w13 at *
              go_wp2_with fail
              go_roundw
              case rel => exact ⟨3, by omega, rfl, rfl, hE13, fun _ => Z0.out, fun _ => Z1.out, fun _ => by first | rfl | trivial⟩
              case measure => simp [intOf]
            | false =>
              have hO := Rt.rOpen_off z0 z1 z2 z3 kw.bas kw.stp (Rt.gd_iff.1 HGB.out.1) (Rt.gd_iff.1 HGB.out.2) (Rt.gd_iff.1 HGW.out) hop
              have HXI : Hid (x2 = (5, zK)) := by have := HP.out; rw [hop] at this; exact this
              have HER : ER = 5 := HR2.out _ Z0.out.1 Z1.out.1 (by rw [HXI.out])
              have HERH : Hid (ER = 5) := HER
              clear HP hop HGB HGW HER
              go_wp2_with fail
              refine (hO _).mono ?_
              rintro e w10 ⟨rfl, hb10⟩
              have hE10 := hE9.later (Wi.Below.join hb10 (below_alloc w10 (.cells #[.int .i64 0, .int .i64 0] 23)))
              clear hO hE9 hX9 hV9 hb10 q0 q1 q2 q3 v0 v1
              go_upto_region 15 with (fail)
              generalize w10.alloc (.cells #[.int .i64 0, .int .i64 0] 23) = w11 at *
              generalize w10.heap.size = F at *
              have hre := hE10.re
              go_wp2_with (first | (refine ldMb hE10.mb rfl _ rfl rfl rfl ?_) | (refine stMb hre rfl rfl _ _ rfl rfl rfl ?_))
              refine bodyPost_ret (resRow (p := 4) (t := 5) rfl _ _ K (mba (pt1 (pt0 m x0.2) x1.2)) rfl (hre.row (pt1 (pt0 m x0.2) x1.2)).var) rfl ?_
              exact ⟨HNO.out 5 HERH.out (by decide) _, Rt.setRow_below hE10.gK hE10.bel _⟩
          | false =>
            obtain ⟨hlow, hnone⟩ := HLOW.out rfl
            clear HOWN HLOW HEN
            have hf2 := fun W (hW : RL W r aL aJ aI) => HFI.out n2 n1 W hW
            obtain ⟨b2, hb2⟩ : ∃ b, fsB r.2.2.2 n2 n1 = b := ⟨_, rfl⟩
            obtain ⟨o2, ho2⟩ : ∃ o, fsO r.2.2.2 n2 n1 = o := ⟨_, rfl⟩
            simp only [hb2, ho2] at hf2
            rw [hb2, ho2] at hlow
            rw [ho2] at hnone
            clear hb2 ho2
            unfold bxa at hf2
            have HF2 : Hid _ := hf2
            have HLW : Hid _ := hlow
            have HNN : Hid _ := hnone
            clear hf2 hlow hnone
            go_upto_region 10 with (fail)
            go_cut [13] (fun s13 wx => s13 = .bool o2 ∧ ES w wx B D K A Y (pt1 (pt0 m x0.2) x1.2) r aL aJ aI cL cJ cI n0 n1 n2 x1.2 ∧ BA wx X b2 ∧ KyAt wx V m.lf)
            case first =>
              have HX9 : Hid (BA w9 X b1) := hX9
              have HV9 : Hid (KyAt w9 V m.lf) := hV9
              have hS0 : ES w w9.drew B D K A Y (pt1 (pt0 m x0.2) x1.2) r aL aJ aI cL cJ cI n0 n1 n2 x1.2 := hE9.later (drew_below _)
              have HXD : Hid (BA w9.drew X b1) := hX9.later (drew_below _)
              have HVD : Hid (KyAt w9.drew V m.lf) := hV9.later (drew_below _)
              have HGX : Hid (w.heap.size ≤ X) := gX8
              clear hX9 hV9 hE9 HX9 HV9
              refine wp_region_held_drew (S := fun W => ES w W B D K A Y (pt1 (pt0 m x0.2) x1.2) r aL aJ aI cL cJ cI n0 n1 n2 x1.2) (by kernel_rfl) hS0 (fun hHeld => ?_)
              clear hS0
              generalize w9.drew = wd at *
              refine wpAnyH_take (i := 0) (oi := { dst := some 47, op := Op.load 31 (Operand.tmp 3), type := _, pos := _, after := _, guard := none }) (v := .agg #[.int .i64 r.1, .slice aL r.2.1.length cL, .slice aJ r.2.2.1.length cJ, .slice aI r.2.2.2.length cI]) rfl (by kernel_rfl) (by kernel_rfl) (by kernel_rfl) (fun _ _ _ h => h) (Or.inl ⟨by rfl, fun w hSw => rk_exec hSw.rk rfl rfl⟩) (by assumption) ?_
              simp only [Act.put, List.setIfInBounds_toArray, List.set_cons_zero, List.set_cons_succ]
              refine wpAnyH_take (i := 1) (oi := { dst := some 48, op := Op.move (Operand.tmp 11), type := _, pos := _, after := _, guard := none }) (v := .int .i64 2) rfl (by kernel_rfl) (by kernel_rfl) (by kernel_rfl) (fun _ _ _ h => h) (Or.inl ⟨by rfl, fun w hSw => by (try dsimp only at hSw); go_simp⟩) (by assumption) ?_
              simp only [Act.put, List.setIfInBounds_toArray, List.set_cons_zero, List.set_cons_succ]
              refine wpAnyH_take (i := 2) (oi := { dst := some 49, op := Op.indexAddr 101 (Operand.tmp 6) (Operand.tmp 48), type := _, pos := _, after := _, guard := none }) (v := .pointer (some ⟨A, 2, none⟩)) rfl (by kernel_rfl) (by kernel_rfl) (by kernel_rfl) (fun _ _ _ h => h) (Or.inl ⟨by rfl, fun w hSw => by (try dsimp only at hSw); go_simp⟩) (by assumption) ?_
              simp only [Act.put, List.setIfInBounds_toArray, List.set_cons_zero, List.set_cons_succ]
              refine wpAnyH_take (i := 3) (oi := { dst := some 50, op := Op.load 3 (Operand.tmp 49), type := _, pos := _, after := _, guard := none }) (v := .int .i64 n2) rfl (by kernel_rfl) (by kernel_rfl) (by kernel_rfl) (fun _ _ _ h => h) (Or.inl ⟨by rfl, fun w hSw => by obtain ⟨c0, c1, c2⟩ := hSw.nd.cells; clear hSw; go_simp⟩) (by assumption) ?_
              simp only [Act.put, List.setIfInBounds_toArray, List.set_cons_zero, List.set_cons_succ]
              refine wpAnyH_take (i := 4) (oi := { dst := some 51, op := Op.move (Operand.tmp 9), type := _, pos := _, after := _, guard := none }) (v := .int .i64 n1) rfl (by kernel_rfl) (by kernel_rfl) (by kernel_rfl) (fun _ _ _ h => h) (Or.inl ⟨by rfl, fun w hSw => by (try dsimp only at hSw); go_simp⟩) (by assumption) ?_
              simp only [Act.put, List.setIfInBounds_toArray, List.set_cons_zero, List.set_cons_succ]
              refine wpAnyH_ready (rs := [5]) (by kernel_rfl) (by simp) ?_
              refine AllReadyH.cons rfl (fun K hK => ?_) AllReadyH.nil
              go_simp
              refine (HF2.out _ (HRL.out.later hHeld.bel)).mono ?_
              rintro e w10 ⟨rfl, hb10⟩
              go_wp2_with fail
              have hX10 := HXD.out.later hb10
              have hV10 := HVD.out.later hb10
              refine hK.out _ _ (hHeld.later hb10) (fun hHeld2 => ?_)
              clear hHeld hb10
              clear hK K
              try simp only [Act.put, List.setIfInBounds_toArray, List.set_cons_zero, List.set_cons_succ]
              refine wpAnyH_take (i := 6) (oi := { dst := some 46, op := Op.move (Operand.tmp 52), type := _, pos := _, after := _, guard := none }) (v := .tuple #[.agg #[.int .i64 b2.1.1, .int .i64 b2.1.2, .int .i64 b2.2.1, .int .i64 b2.2.2], .bool o2]) rfl (by kernel_rfl) (by kernel_rfl) (by kernel_rfl) (fun _ _ _ h => h) (Or.inl ⟨by rfl, fun w hSw => by (try dsimp only at hSw); go_simp⟩) (by assumption) ?_
              simp only [Act.put, List.setIfInBounds_toArray, List.set_cons_zero, List.set_cons_succ]
              refine wpAnyH_take (i := 7) (oi := { dst := some 53, op := Op.extract (Operand.tmp 46) 0, type := _, pos := _, after := _, guard := none }) (v := .agg #[.int .i64 b2.1.1, .int .i64 b2.1.2, .int .i64 b2.2.1, .int .i64 b2.2.2]) rfl (by kernel_rfl) (by kernel_rfl) (by kernel_rfl) (fun _ _ _ h => h) (Or.inl ⟨by rfl, fun w hSw => by (try dsimp only at hSw); go_simp⟩) (by assumption) ?_
              simp only [Act.put, List.setIfInBounds_toArray, List.set_cons_zero, List.set_cons_succ]
              refine wpAnyH_take (i := 8) (oi := { dst := some 54, op := Op.extract (Operand.tmp 46) 1, type := _, pos := _, after := _, guard := none }) (v := .bool o2) rfl (by kernel_rfl) (by kernel_rfl) (by kernel_rfl) (fun _ _ _ h => h) (Or.inl ⟨by rfl, fun w hSw => by (try dsimp only at hSw); go_simp⟩) (by assumption) ?_
              simp only [Act.put, List.setIfInBounds_toArray, List.set_cons_zero, List.set_cons_succ]
              refine wpAnyH_ready (rs := [9]) (by kernel_rfl) (by simp) ?_
              refine AllReadyH.cons rfl (fun Kc hK => ?_) AllReadyH.nil
              refine if_wp rfl (wp_stRow0 58 _ _ rfl _ (bxa b2) rfl rfl 58 _ hX10 infoBx4 rfl (by simp [bxa, Value.oneCell']) rfl ?_)
              have hXZ := Rt.heap_setRow_same hX10 (bxa b2)
              have hVZ : KyAt (w10.setRow X (bxa b2)) V m.lf := (Rt.row_other (block_ne hV10 hX10 (by decide)) _).trans hV10
              refine hK.out _ _ (hHeld2.box hX10 HGX.out _) (fun hHeld3 => ?_)
              clear hHeld2
              clear hK Kc
              try simp only [Act.put, List.setIfInBounds_toArray, List.set_cons_zero, List.set_cons_succ]
              refine wpAnyH_take (i := 10) (oi := { dst := some 13, op := Op.assign (Operand.tmp 54), type := _, pos := _, after := _, guard := none }) (v := .bool o2) rfl (by kernel_rfl) (by kernel_rfl) (by kernel_rfl) (fun _ _ _ h => h) (Or.inl ⟨by rfl, fun w hSw => by (try dsimp only at hSw); go_simp⟩) (by assumption) ?_
              simp only [Act.put, List.setIfInBounds_toArray, List.set_cons_zero, List.set_cons_succ]
              refine wpAnyH_done (by kernel_rfl) ?_ _
              go_wp2_with fail
              go_meet
              case rel => exact ⟨rfl, hHeld3, hXZ, hVZ⟩
            case rest =>
              obtain ⟨rfl, hEc, hXc, hVc⟩ := hcut
              clear hE9 hX9 hV9 HF2
              obtain ⟨y0, y1⟩ := hEc.ky.cells
              go_upto_region 12 with (refine stKy hVc x1.2 rfl _ _ rfl rfl rfl ?_)
              clear y0 y1
              have hE9 := hEc.key hVc hVY gV #[.int .i64 x1.2.bas, .int .i64 x1.2.stp]
              have hX9 : BA (wc.setRow V #[.int .i64 x1.2.bas, .int .i64 x1.2.stp]) X b2 := (Rt.row_other hXV _).trans hXc
              have hV9 := KyAt.row hVc x1.2
              clear hEc hXc hVc
              generalize wc.setRow V #[.int .i64 x1.2.bas, .int .i64 x1.2.stp] = w9 at *
              cases o2 with
              | false =>
                have HXI : Hid (x2 = (23, zK)) := HNN.out rfl
                have HER : ER = 23 := HR2.out _ Z0.out.1 Z1.out.1 (by rw [HXI.out])
                have hre := hE9.re
                clear HLW HNN
                go_wp2_with (first | (refine ldMb hE9.mb rfl _ rfl rfl rfl ?_) | (refine stMb hre rfl rfl _ _ rfl rfl rfl ?_))
                refine bodyPost_ret (resRow (p := 4) (t := 5) rfl _ _ K (mba (pt1 (pt0 m x0.2) x1.2)) rfl (hre.row (pt1 (pt0 m x0.2) x1.2)).var) rfl ?_
                exact ⟨HNO.out 23 HER (by decide) _, Rt.setRow_below hE9.gK hE9.bel _⟩
              | true =>
                obtain ⟨hfst, hxe⟩ := HLW.out rfl
                have HP : Hid (x2 = if opn b2 x1.2 then (0, ldK b2) else (5, zK)) := hxe
                have HGB : Hid (gK b2.1 = true ∧ gK b2.2 = true) := fst_good HI.out hfst
                have HGW : Hid (gk x1.2 = true) := Z1.out.2
                clear hfst hxe HLW HNN
                go_upto_region 14 with (fail)
                obtain ⟨bb, hbb⟩ : ∃ b, b2 = b := ⟨_, rfl⟩
                obtain ⟨kw, hkw⟩ : ∃ b, x1.2 = b := ⟨_, rfl⟩
                have hT : BA w9 X bb ∧ KyAt w9 V kw := ⟨hbb ▸ hX9, hkw ▸ hV9⟩
                have HP : Hid (x2 = if opn bb kw then (0, ldK bb) else (5, zK)) := by rw [← hbb, ← hkw]; exact HP.out
                have HGB : Hid (gK bb.1 = true ∧ gK bb.2 = true) := by rw [← hbb]; exact HGB.out
                have HGW : Hid (gk kw = true) := by rw [← hkw]; exact HGW.out
                clear hbb hkw hX9 hV9
                obtain ⟨hX9, hV9⟩ := hT
                obtain ⟨⟨z0, z1⟩, z2, z3⟩ := bb
                obtain ⟨q0, q1, q2, q3⟩ := hX9.cells
                obtain ⟨v0, v1⟩ := hV9.cells
                dsimp only at q0 q1 q2 q3
                cases hop : opn ((z0, z1), (z2, z3)) kw with
                | true =>
                  have hO := Rt.rOpen_yes z0 z1 z2 z3 kw.bas kw.stp (Rt.gd_iff.1 HGB.out.1) (Rt.gd_iff.1 HGB.out.2) (Rt.gd_iff.1 HGW.out) hop
                  have hxi : x2 = (0, ⟨z2, z3⟩) := by have := HP.out; rw [hop] at this; exact this
                  have HGZ : Hid (gk ⟨z2, z3⟩ = true) := HGB.out.2
                  clear HP hop HGB HGW
                  subst hxi
                  go_wp2_with fail
                  refine (hO _).mono ?_
                  rintro e w10 ⟨rfl, hb10⟩
                  have hb10' := Wi.Below.join hb10 (below_alloc w10 (.cells #[.int .i64 z2, .int .i64 z3] 23))
                  have hE10 := hE9.later hb10'
                  have hF10 : KyAt (w10.alloc (.cells #[.int .i64 z2, .int .i64 z3] 23)) w10.heap.size ⟨z2, z3⟩ := KyAt.new w10 ⟨z2, z3⟩
                  have hFY : w10.heap.size ≠ Y := Nat.ne_of_gt (hE9.later hb10).ky.lt
                  have hFB : w10.heap.size ≠ B := Nat.ne_of_gt (hE9.later hb10).mb.lt
                  clear hO hE9 hX9 hV9 hb10 hb10' q0 q1 q2 q3 v0 v1
                  go_upto_region 15 with (fail)
                  generalize w10.alloc (.cells #[.int .i64 z2, .int .i64 z3] 23) = w11 at *
                  generalize w10.heap.size = F at *
                  obtain ⟨⟨a0, a1⟩, ⟨a2, a3⟩, a4, a5⟩ := hE10.mb.key
                  have g0 := hE10.mb.fr 9
                  have g1 := hE10.mb.fr 10
                  obtain ⟨f0, f1⟩ := hF10.cells
                  go_upto_region 18 with (fail)
                  have hE11 := hE10.set2 ⟨z2, z3⟩
                  have hF11 : KyAt ((w11.setCell ⟨B, 9, none⟩ (.int .i64 z2)).setCell ⟨B, 10, none⟩ (.int .i64 z3)) F ⟨z2, z3⟩ := two_other hF10 hFB _ _ _ _
                  clear hE10 hF10 a0 a1 a2 a3 a4 a5 g0 g1 f0 f1 hFB
                  dsimp only at hE11
                  generalize (w11.setCell ⟨B, 9, none⟩ (.int .i64 z2)).setCell ⟨B, 10, none⟩ (.int .i64 z3) = w12 at *
                  have hED := hE11.later (drew_below _)
                  have hFD := hF11.later (drew_below _)
                  clear hE11 hF11
                  have HED : Hid _ := hED
                  have HFY : Hid (F ≠ Y) := hFY
                  have HAY : Hid (A ≠ Y) := block_ne hED.nd hED.ky (by decide)
                  have hS0 : KyAt w12.drew F ⟨z2, z3⟩ ∧ N3 w12.drew A n0 n1 n2 := ⟨hFD, hED.nd⟩
                  clear hED hFD hFY
                  refine wp_region_held_drew (S := fun W => KyAt W F ⟨z2, z3⟩ ∧ N3 W A n0 n1 n2) (by kernel_rfl) hS0 (fun hHeld => ?_)
                  clear hS0
                  obtain ⟨y0, y1⟩ := HED.out.ky.cells
                  have u0 := Rt.row_frozen HED.out.ky 0
                  have u1 := Rt.row_frozen HED.out.ky 1
                  generalize w12.drew = wd at *
                  refine wpAnyH_take (i := 0) (oi := { dst := some 72, op := Op.move (Operand.tmp 11), type := _, pos := _, after := _, guard := none }) (v := .int .i64 2) rfl (by kernel_rfl) (by kernel_rfl) (by kernel_rfl) (fun _ _ _ h => h) (Or.inl ⟨by rfl, fun w hSw => by (try dsimp only at hSw); go_simp⟩) (by assumption) ?_
                  simp only [Act.put, List.setIfInBounds_toArray, List.set_cons_zero, List.set_cons_succ]
                  refine wpAnyH_take (i := 1) (oi := { dst := some 73, op := Op.indexAddr 101 (Operand.tmp 6) (Operand.tmp 72), type := _, pos := _, after := _, guard := none }) (v := .pointer (some ⟨A, 2, none⟩)) rfl (by kernel_rfl) (by kernel_rfl) (by kernel_rfl) (fun _ _ _ h => h) (Or.inl ⟨by rfl, fun w hSw => by (try dsimp only at hSw); go_simp⟩) (by assumption) ?_
                  simp only [Act.put, List.setIfInBounds_toArray, List.set_cons_zero, List.set_cons_succ]
                  refine wpAnyH_take (i := 2) (oi := { dst := some 74, op := Op.load 3 (Operand.tmp 73), type := _, pos := _, after := _, guard := none }) (v := .int .i64 n2) rfl (by kernel_rfl) (by kernel_rfl) (by kernel_rfl) (fun _ _ _ h => h) (Or.inl ⟨by rfl, fun w hSw => by obtain ⟨c0, c1, c2⟩ := hSw.2.cells; clear hSw y0 y1 u0 u1; go_simp⟩) (by assumption) ?_
                  simp only [Act.put, List.setIfInBounds_toArray, List.set_cons_zero, List.set_cons_succ]
                  refine wpAnyH_take (i := 3) (oi := { dst := some 75, op := Op.load 23 (Operand.tmp 15), type := _, pos := _, after := _, guard := none }) (v := .agg #[.int .i64 z2, .int .i64 z3]) rfl (by kernel_rfl) (by kernel_rfl) (by kernel_rfl) (fun _ _ _ h => h) (Or.inl ⟨by rfl, fun w hSw => by obtain ⟨c0, c1⟩ := hSw.1.cells; clear hSw y0 y1 u0 u1; go_simp⟩) (by assumption) ?_
                  simp only [Act.put, List.setIfInBounds_toArray, List.set_cons_zero, List.set_cons_succ]
                  refine wpAnyH_take (i := 4) (oi := { dst := some 9, op := Op.assign (Operand.tmp 74), type := _, pos := _, after := _, guard := none }) (v := .int .i64 n2) rfl (by kernel_rfl) (by kernel_rfl) (by kernel_rfl) (fun _ _ _ h => h) (Or.inl ⟨by rfl, fun w hSw => by (try dsimp only at hSw); go_simp⟩) (by assumption) ?_
                  simp only [Act.put, List.setIfInBounds_toArray, List.set_cons_zero, List.set_cons_succ]
                  refine wpAnyH_ready (rs := [5]) (by kernel_rfl) (by simp) ?_
                  refine AllReadyH.cons rfl (fun K hK => ?_) AllReadyH.nil
                  go_simp
                  refine hK.out _ _ ⟨two_other hHeld.1 HFY.out _ _ _ _, two_other hHeld.2 HAY.out _ _ _ _⟩ (fun hHeld2 => ?_)
                  clear hHeld
                  clear hK K
                  try simp only [Act.put, List.setIfInBounds_toArray, List.set_cons_zero, List.set_cons_succ]
                  refine wpAnyH_done (by kernel_rfl) ?_ _
                  clear y0 y1 u0 u1 hHeld2
                  have hE13 := HED.out.setY ⟨z2, z3⟩
                  clear HED HFY HAY
                  dsimp only at hE13
                  generalize (wd.setCell ⟨Y, 0, none⟩ (.int .i64 z2)).setCell ⟨Y, 1, none⟩ (.int .i64 z3) = w13 at *
                  go_wp2_with fail
                  go_roundw
                  case rel => exact ⟨3, by omega, rfl, rfl, hE13, fun _ => Z0.out, fun _ => Z1.out, fun _ => by first | rfl | trivial⟩
                  case measure => simp [intOf]
                | false =>
                  have hO := Rt.rOpen_off z0 z1 z2 z3 kw.bas kw.stp (Rt.gd_iff.1 HGB.out.1) (Rt.gd_iff.1 HGB.out.2) (Rt.gd_iff.1 HGW.out) hop
                  have HXI : Hid (x2 = (5, zK)) := by have := HP.out; rw [hop] at this; exact this
                  have HER : ER = 5 := HR2.out _ Z0.out.1 Z1.out.1 (by rw [HXI.out])
                  have HERH : Hid (ER = 5) := HER
                  clear HP hop HGB HGW HER
                  go_wp2_with fail
                  refine (hO _).mono ?_
                  rintro e w10 ⟨rfl, hb10⟩
                  have hE10 := hE9.later (Wi.Below.join hb10 (below_alloc w10 (.cells #[.int .i64 0, .int .i64 0] 23)))
                  clear hO hE9 hX9 hV9 hb10 q0 q1 q2 q3 v0 v1
                  go_upto_region 15 with (fail)
                  generalize w10.alloc (.cells #[.int .i64 0, .int .i64 0] 23) = w11 at *
                  generalize w10.heap.size = F at *
                  have hre := hE10.re
                  go_wp2_with (first | (refine ldMb hE10.mb rfl _ rfl rfl rfl ?_) | (refine stMb hre rfl rfl _ _ rfl rfl rfl ?_))
                  refine bodyPost_ret (resRow (p := 4) (t := 5) rfl _ _ K (mba (pt1 (pt0 m x0.2) x1.2)) rfl (hre.row (pt1 (pt0 m x0.2) x1.2)).var) rfl ?_
                  exact ⟨HNO.out 5 HERH.out (by decide) _, Rt.setRow_below hE10.gK hE10.bel _⟩
      · have hE : ES w wr B D K A Y (pt2 (pt1 (pt0 m x0.2) x1.2) x2.2) r aL aJ aI cL cJ cI n0 n1 n2 x2.2 := hE
        have Z : Hid (ER = 0) := HR2.out 0 (p1 (by omega)).1 (p2 (by omega)).1 (p3 (by omega))
        clear p1 p2 p3
        have f0 := hE.mb.fr 11
        have c1 := hE.mb.has
        go_upto_region 20 with (fail)
        have hM : MA (wr.setCell ⟨B, 11, none⟩ (.bool true)) B (EnF m x0 x1 x2) := Rt.row_setCell hE.mb 11 (.bool true)
        have hre : MA (wr.setCell ⟨B, 11, none⟩ (.bool true)) K zMb := (Rt.other_setCell (Ne.symm hE.ne) _ _).trans hE.re
        have hbl : Below w.heap.size w (wr.setCell ⟨B, 11, none⟩ (.bool true)) := hE.bel.setCell (p := ⟨B, 11, none⟩) hE.gB _
        have hgK := hE.gK
        clear hE f0 c1
        generalize wr.setCell ⟨B, 11, none⟩ (.bool true) = wz at *
        go_wp2_with (first | (refine ldMb hM rfl _ rfl rfl rfl ?_) | (refine stMb (n := EnF m x0 x1 x2) hre rfl rfl _ _ rfl rfl rfl ?_))
        refine bodyPost_ret (resRow (p := 4) (t := 5) rfl _ _ K (mba (EnF m x0 x1 x2)) rfl (hre.row (EnF m x0 x1 x2)).var) rfl ?_
        exact ⟨HYE.out Z.out, Rt.setRow_below hgK hbl _⟩
end Go.Proofs.YtnaiocdldghdeaaGreat.Mb
