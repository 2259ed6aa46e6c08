/- Contract: the document's follow (made by wip/mk_rfol.py). -/
import Derived.Test.YtnaiocdldghdeaaGreatMbY
import Derived.Test.YtnaiocdldghdeaaGreatPlJ8
namespace Go.Proofs.YtnaiocdldghdeaaGreat.Mb
open Go.RowKit Go.Maps
open Rt (Ky zK gd gv Gd pcs KyAt)
open Wi (gR gE gW gS gI gB gK ldM stM rd_guard ra_of th_of ra_later RdV itl stl)
set_option linter.unusedVariables false
set_option linter.unusedSimpArgs false

theorem rdP_of {w : World} {a : Option Addr} {l : List (Int × Int)} (h : RdV stl 2 w a l) : RdP w a l := fun i hi => by
  obtain ⟨b, o, e, hr⟩ := h i hi
  have e2 : l.getD i (0, 0) = l[i] := by rw [List.getD_eq_getElem?_getD, List.getElem?_eq_getElem hi]; rfl
  rw [e2]
  exact ⟨b, o, e, hr 0 _ rfl, hr 1 _ rfl⟩
theorem fo_own {I : List Im} {v below : Int} {old k : Ky} (h : fsO I v below = true) : foP I true v below old k = if opn (fsB I v below) k then (0, ldK (fsB I v below)) else (5, zK) := by unfold foP; rw [if_pos rfl, fs_yes h]
theorem fo_none {I : List Im} {v below : Int} {old k : Ky} (h : fsO I v below = false) : foP I true v below old k = (23, zK) := by unfold foP; rw [if_pos rfl, fs_no h]
theorem fo_adv {I : List Im} {v below : Int} {old k : Ky} : foP I false v below old k = if advB old then (0, adv old) else (4, zK) := by unfold foP; rw [if_neg (by decide)]
def lfM (m : Mb) (x : Ky) : Mb := ⟨m.who, m.slt, m.ep, x, m.p0, m.p1, m.p2, m.has, m.out, m.bh⟩
def FoF (m : Mb) (e : Int) (x0 x1 x2 : Int × Ky) : Mb := ⟨m.who, m.slt, e, adv m.lf, x0.2, x1.2, x2.2, m.has, m.out, m.bh⟩
def FoA (m : Mb) (r : Rk) (e : Ending) : Prop := ∃ n, e = .returned (.tuple #[.agg (mba n), .int .i64 (foEr m r)]) ∧ (foEr m r = 0 → n = FoF m r.1 (fo0 m r) (fo1 m r) (fo2 m r))
theorem FoA.no {m : Mb} {r : Rk} {e : Int} (h : foEr m r = e) (h0 : e ≠ 0) (n : Mb) : FoA m r (.returned (.tuple #[.agg (mba n), .int .i64 e])) := ⟨n, by rw [h], fun h2 => absurd (h.symm.trans h2) h0⟩
theorem FoA.yes {m : Mb} {r : Rk} (h : foEr m r = 0) : FoA m r (.returned (.tuple #[.agg (mba (FoF m r.1 (fo0 m r) (fo1 m r) (fo2 m r))), .int .i64 0])) := ⟨_, by rw [h], fun _ => rfl⟩
theorem fr_l {m : Mb} {r : Rk} (h : advB m.lf = false) : foEr m r = 4 := by unfold foEr; rw [h]; rfl
theorem fr_0 {m : Mb} {r : Rk} {e : Int} (ha : advB m.lf = true) (h : (fo0 m r).1 = e) (h0 : e ≠ 0) : foEr m r = e := by unfold foEr; rw [ha, if_pos rfl, h, if_neg h0]
theorem fr_1 {m : Mb} {r : Rk} {e : Int} (ha : advB m.lf = true) (h1 : (fo0 m r).1 = 0) (h : (fo1 m r).1 = e) (h0 : e ≠ 0) : foEr m r = e := by unfold foEr; rw [ha, if_pos rfl, if_pos h1, h, if_neg h0]
theorem fr_2 {m : Mb} {r : Rk} {e : Int} (ha : advB m.lf = true) (h1 : (fo0 m r).1 = 0) (h2 : (fo1 m r).1 = 0) (h : (fo2 m r).1 = e) : foEr m r = e := by unfold foEr; rw [ha, if_pos rfl, if_pos h1, if_pos h2, h]
theorem adv_yes {k : Ky} (hg : gk k = true) (h : advB k = true) (w : World) : Calls Tryz.prog 57 #[.agg #[.int .i64 k.bas, .int .i64 k.stp], .int .i64 1] w fun e w' => e = .returned (.tuple #[.agg #[.int .i64 (adv k).bas, .int .i64 (adv k).stp], .int .i64 0]) ∧ Below w.heap.size w w' := by
  unfold advB at h
  rw [Bool.and_eq_true, decide_eq_true_eq] at h
  exact Rt.rAhead_yes k.bas k.stp 1 (Rt.gd_iff.1 hg) (by decide) (by omega) w
theorem adv_no {k : Ky} (hg : gk k = true) (h : advB k = false) (w : World) : Calls Tryz.prog 57 #[.agg #[.int .i64 k.bas, .int .i64 k.stp], .int .i64 1] w fun e w' => e = .returned (.tuple #[.agg #[.int .i64 0, .int .i64 0], .int .i64 4]) ∧ Below w.heap.size w w' := by
  unfold advB at h
  rw [hg, Bool.true_and, decide_eq_false_iff_not] at h
  exact Rt.rAhead_far k.bas k.stp 1 (Rt.gd_iff.1 hg) (by omega) w
theorem rIn_nd (s : Int) (hs0 : 0 ≤ s) (hs1 : s < 64) (i : Nat) (L : List (Int × Int)) (w : World) : Calls Tryz.prog 58 #[.int .u32 ((rp L : Nat) : Int), .int .i64 (nd s i)] w fun e w' => e = .returned (.bool (rpl L (pn s.toNat i))) ∧ w' = w := by
  have hp : pn s.toNat i < 21 := pn_lt (by omega) i
  have h := Rt.rIn_any (rp L) (pn s.toNat i) (by have := rp_lt L; omega) (by omega) w
  rw [rp_bit L hp] at h
  exact h
set_option maxRecDepth 100000 in
set_option maxHeartbeats 8000000 in
theorem rFollow_any (m : Mb) (r : Rk) (aL aJ aI : Option Addr) (cL cJ cI : Nat) (w : World) (hr : RL w r aL aJ aI) (hg : gR r = true) (hlf : gk m.lf = true) (hs0 : 0 ≤ m.slt) (hs1 : m.slt < 64) (hp0 : gk m.p0 = true) (hp1 : gk m.p1 = true) (hp2 : gk m.p2 = true) :
    Calls Tryz.prog 21 #[.agg (mba m), .agg (rka r aL aJ aI cL cJ cI)] w fun e w' => FoA m r e ∧ Below w.heap.size w w' := by
  have hS := MP.new (cL := cL) (cJ := cJ) (cI := cI) w m hr
  have hP := rPath_nd m.slt hs0 hs1
  have hl := Sh.rLeaf_any m.slt
  rw [Sh.lef_yes hs0 hs1] at hl
  have hfi := fun v f W (hW : RL W r aL aJ aI) => rFirst_any r aL aJ aI cL cJ cI v f W hW (by have := (gR_len hg).2.2; omega)
  unfold FsA rka at hfi
  have HFI : Hid _ := hfi
  have hrp := fun W (hW : RL W r aL aJ aI) => rRepl_any aL cL r.2.1 W (by have := (gR_len hg).1; omega) (rdP_of hW.l)
  have HRP : Hid _ := hrp
  have hin0 := rIn_nd m.slt hs0 hs1 0 r.2.1
  have hin1 := rIn_nd m.slt hs0 hs1 1 r.2.1
  have hin2 := rIn_nd m.slt hs0 hs1 2 r.2.1
  have HI : Hid (r.2.2.2.all gI = true) := gR_items hg
  have HRL : Hid (RL w r aL aJ aI) := hr
  have E0 : Hid (fo0 m r = foP r.2.2.2 (rpl r.2.1 (pn m.slt.toNat 0)) (nd m.slt 0) (21 + m.slt) m.p0 (adv m.lf)) := rfl
  have E1 : Hid (fo1 m r = foP r.2.2.2 (rpl r.2.1 (pn m.slt.toNat 1)) (nd m.slt 1) (nd m.slt 0) m.p1 (fo0 m r).2) := rfl
  have E2 : Hid (fo2 m r = foP r.2.2.2 (rpl r.2.1 (pn m.slt.toNat 2)) (nd m.slt 2) (nd m.slt 1) m.p2 (fo1 m r).2) := rfl
  have HLF : Hid (gk m.lf = true) := hlf
  have HP0 : Hid (gk m.p0 = true) := hp0
  have HP1 : Hid (gk m.p1 = true) := hp1
  have HP2 : Hid (gk m.p2 = true) := hp2
  generalize rpl r.2.1 (pn m.slt.toNat 0) = g0 at *
  generalize rpl r.2.1 (pn m.slt.toNat 1) = g1 at *
  generalize rpl r.2.1 (pn m.slt.toNat 2) = g2 at *
  generalize nd m.slt 0 = n0 at *
  generalize nd m.slt 1 = n1 at *
  generalize nd m.slt 2 = n2 at *
  generalize 21 + m.slt = q at *
  obtain ⟨rpv, hrpv⟩ : ∃ x : Int, ((rp r.2.1 : Nat) : Int) = x := ⟨_, rfl⟩
  simp only [hrpv] at hin0 hin1 hin2 HRP
  have HIN0 : Hid _ := hin0
  have HIN1 : Hid _ := hin1
  have HIN2 : Hid _ := hin2
  have HRL4 : Hid (advB m.lf = false → foEr m r = 4) := fr_l
  have HR0 : Hid (advB m.lf = true → ∀ e, (fo0 m r).1 = e → e ≠ 0 → foEr m r = e) := fun ha e => fr_0 ha
  have HR1 : Hid (advB m.lf = true → ∀ e, (fo0 m r).1 = 0 → (fo1 m r).1 = e → e ≠ 0 → foEr m r = e) := fun ha e => fr_1 ha
  have HR2 : Hid (advB m.lf = true → ∀ e, (fo0 m r).1 = 0 → (fo1 m r).1 = 0 → (fo2 m r).1 = e → foEr m r = e) := fun ha e => fr_2 ha
  have HNO : Hid (∀ (e : Int) (_ : foEr m r = e) (_ : e ≠ 0) (n : Mb), FoA m r (.returned (.tuple #[.agg (mba n), .int .i64 e]))) := fun e h h0 n => FoA.no h h0 n
  have HYE : Hid (foEr m r = 0 → FoA m r (.returned (.tuple #[.agg (mba (FoF m r.1 (fo0 m r) (fo1 m r) (fo2 m r))), .int .i64 0]))) := FoA.yes
  obtain ⟨ER, hER⟩ : ∃ e, foEr m r = e := ⟨_, rfl⟩
  obtain ⟨PO, hPO⟩ : ∃ P : Ending → Prop, FoA m r = P := ⟨_, rfl⟩
  rw [hER] at HR0 HR1 HR2 HNO HYE HRL4
  rw [hPO] at HNO HYE ⊢
  generalize fo0 m r = x0 at *
  generalize fo1 m r = x1 at *
  generalize fo2 m r = x2 at *
  clear hER hPO hfi hr hg hs0 hs1 hlf hp0 hp1 hp2 hrp hin0 hin1 hin2 hrpv
  obtain ⟨cm, hcm⟩ : ∃ c, mba m = c := ⟨_, rfl⟩
  rw [hcm] at hS
  rw [hcm]
  have HC : Hid (mba m = cm) := hcm
  clear hcm
  unfold rka at hS
  go_enter Tryz.func21, Tryz.ntmps21
  unfold rka
  go_upto_region 1 with (fail)
  rw [zMb_eq]
  generalize ((w.alloc (.cells cm 27)).alloc (.cells #[.int .i64 r.1, .slice aL r.2.1.length cL, .slice aJ r.2.2.1.length cJ, .slice aI r.2.2.2.length cI] 31)).alloc (.cells (mba zMb) 27) = w1 at *
  obtain ⟨K, hK⟩ : ∃ K, w.heap.size + 2 = K := ⟨_, rfl⟩
  obtain ⟨D, hD⟩ : ∃ K, w.heap.size + 1 = K := ⟨_, rfl⟩
  obtain ⟨B, hB⟩ : ∃ K, w.heap.size = K := ⟨_, rfl⟩
  rw [hK, hD, hB] at hS ⊢
  clear hK hD hB
  have c0 := hS.v.mb.slt
  go_wp2_with fail
  refine (hP _).mono ?_
  rintro e w2 ⟨rfl, hb2⟩
  have hb2' := Wi.Below.join hb2 (below_alloc w2 (.cells #[.int .i64 n0, .int .i64 n1, .int .i64 n2] 101))
  have hS3 := hS.later hb2'
  have hN3 : N3 (w2.alloc (.cells #[.int .i64 n0, .int .i64 n1, .int .i64 n2] 101)) w2.heap.size n0 n1 n2 := heap_alloc_last w2 _
  clear hS hb2 hb2' hP c0
  go_upto_region 2 with (fail)
  generalize w2.alloc (.cells #[.int .i64 n0, .int .i64 n1, .int .i64 n2] 101) = w3 at *
  generalize w2.heap.size = A at *
  obtain ⟨d0, d1, d2, d3⟩ := hS3.v.rk.cells
  go_wp2_with fail
  refine (HRP.out _ hS3.v.rd).mono ?_
  rintro e w4 ⟨rfl, hb4⟩
  have hS4 := hS3.later hb4
  have hN4 : N3 w4 A n0 n1 n2 := row_later hN3 hb4
  clear hS3 hN3 hb4 HRP d0 d1 d2 d3
  obtain ⟨l0, l1⟩ := hS4.v.mb.leaf
  go_upto_region 3 with (fail)
  cases ha : advB m.lf with
  | false =>
    have hA := adv_no HLF.out ha
    have HER : Hid (ER = 4) := HRL4.out ha
    clear ha
    go_wp2_with fail
    refine (hA _).mono ?_
    rintro e w5 ⟨rfl, hb5⟩
    have hS6 := hS4.later (Wi.Below.join hb5 (below_alloc w5 (.cells #[.int .i64 0, .int .i64 0] 23)))
    clear hS4 hN4 hb5 l0 l1 hA
    go_upto_region 4 with (fail)
    generalize w5.alloc (.cells #[.int .i64 0, .int .i64 0] 23) = w6 at *
    generalize w5.heap.size = Y at *
    have hre := hS6.re
    go_wp2_with (first | (refine ldMb hS6.v.mb rfl _ rfl rfl rfl ?_) | (refine stMb hre rfl rfl _ _ rfl rfl rfl ?_))
    refine bodyPost_ret (resRow (p := 4) (t := 5) rfl _ _ K (mba m) rfl (hre.row m).var) rfl ?_
    exact ⟨HNO.out 4 HER.out (by decide) _, Rt.setRow_below hS6.ge hS6.bel _⟩
  | true =>
    have hA := adv_yes HLF.out ha
    have HGL : Hid (gk (adv m.lf) = true) := adv_good ha
    have HR0 : Hid (∀ e, x0.1 = e → e ≠ 0 → ER = e) := HR0.out ha
    have HR1 : Hid (∀ e, x0.1 = 0 → x1.1 = e → e ≠ 0 → ER = e) := HR1.out ha
    have HR2 : Hid (∀ e, x0.1 = 0 → x1.1 = 0 → x2.1 = e → ER = e) := HR2.out ha
    clear ha HRL4
    have HFF : Hid (∀ k, adv m.lf = k → FoF m r.1 x0 x1 x2 = ⟨m.who, m.slt, r.1, k, x0.2, x1.2, x2.2, m.has, m.out, m.bh⟩) := fun k hk => by rw [← hk]; rfl
    obtain ⟨kl, hkl⟩ : ∃ k, adv m.lf = k := ⟨_, rfl⟩
    have HFF2 : Hid (FoF m r.1 x0 x1 x2 = ⟨m.who, m.slt, r.1, kl, x0.2, x1.2, x2.2, m.has, m.out, m.bh⟩) := HFF.out kl hkl
    simp only [hkl] at hA
    rw [hkl] at HGL E0
    clear hkl HFF
    go_wp2_with fail
    refine (hA _).mono ?_
    rintro e w5 ⟨rfl, hb5⟩
    have hb6 := Wi.Below.join hb5 (below_alloc w5 (.cells #[.int .i64 kl.bas, .int .i64 kl.stp] 23))
    have hS6 := hS4.later hb6
    have hE6 : ES w (w5.alloc (.cells #[.int .i64 kl.bas, .int .i64 kl.stp] 23)) B D K A w5.heap.size m r aL aJ aI cL cJ cI n0 n1 n2 kl := ⟨hS6.v.mb, hS6.v.rk, hS6.re, row_later hN4 hb6, KyAt.new w5 kl, hS6.bel, hS6.gB, hS6.ge, Nat.le_trans hS4.bel.size hb5.size, hS6.ne⟩
    clear hS4 hN4 hb5 l0 l1 hA hb6 hS6
    go_upto_region 4 with (fail)
    generalize w5.alloc (.cells #[.int .i64 kl.bas, .int .i64 kl.stp] 23) = w6 at *
    generalize w5.heap.size = Y at *
    obtain ⟨y0, y1⟩ := hE6.ky.cells
    have f3 := hE6.mb.fr 3
    have f4 := hE6.mb.fr 4
    obtain ⟨l0, l1⟩ := hE6.mb.leaf
    go_upto_region 7 with (fail)
    have hE : ES w ((w6.setCell ⟨B, 3, none⟩ (.int .i64 kl.bas)).setCell ⟨B, 4, none⟩ (.int .i64 kl.stp)) B D K A Y (lfM m kl) r aL aJ aI cL cJ cI n0 n1 n2 kl := hE6.setP 3 4 _ _ (Rt.row_setCell (Rt.row_setCell hE6.mb 3 (.int .i64 kl.bas)) 4 (.int .i64 kl.stp))
    clear hE6 y0 y1 f3 f4 l0 l1
    generalize (w6.setCell ⟨B, 3, none⟩ (.int .i64 kl.bas)).setCell ⟨B, 4, none⟩ (.int .i64 kl.stp) = w7 at *
    have c0 : w7.cell? ⟨B, 1, none⟩ = some (.int .i64 m.slt) := hE.mb.slt
    go_wp2_with fail
    refine (hl _).mono ?_
    rintro e w7 ⟨rfl, rfl⟩
    clear c0 hl
    obtain ⟨ml, hml⟩ : ∃ x, lfM m kl = x := ⟨_, rfl⟩
    have Q0 : ml.p0 = m.p0 := by rw [← hml]; rfl
    have Q1 : ml.p1 = m.p1 := by rw [← hml]; rfl
    have Q2 : ml.p2 = m.p2 := by rw [← hml]; rfl
    have HQ0 : Hid (ml.p0 = m.p0) := Q0
    have HQ1 : Hid (ml.p1 = m.p1) := Q1
    have HQ2 : Hid (ml.p2 = m.p2) := Q2
    have HFF : Hid (FoF m r.1 x0 x1 x2 = ⟨ml.who, ml.slt, r.1, ml.lf, x0.2, x1.2, x2.2, ml.has, ml.out, ml.bh⟩) := by rw [← hml]; exact HFF2.out
    rw [hml] at hE
    clear hml Q0 Q1 Q2 HFF2
    go_wp2_with fail
    go_loopw [11, 12] (fun s9 s11 wx => ∃ i : Nat, i ≤ 3 ∧ s11 = .int .i64 (i : Int) ∧ s9 = .int .i64 (sel q n0 n1 n2 i) ∧ ES w wx B D K A Y (sel ml (pt0 ml x0.2) (pt1 (pt0 ml x0.2) x1.2) (pt2 (pt1 (pt0 ml x0.2) x1.2) x2.2) i) r aL aJ aI cL cJ cI n0 n1 n2 (sel kl x0.2 x1.2 x2.2 i) ∧ (1 ≤ i → x0.1 = 0 ∧ gk x0.2 = true) ∧ (2 ≤ i → x1.1 = 0 ∧ gk x1.2 = true) ∧ (3 ≤ i → x2.1 = 0)) (fun _ i _ => 3 - (intOf i).toNat)
    case atStart => exact ⟨0, by omega, rfl, rfl, hE, fun h => by omega, fun h => by omega, fun h => by omega⟩
    case round =>
      clear hE
      obtain ⟨i, hi, rfl, rfl, hE, p1, p2, p3⟩ := hrel
      have hi4 : i = 0 ∨ i = 1 ∨ i = 2 ∨ i = 3 := by omega
      clear hi
      rcases hi4 with rfl | rfl | rfl | rfl
      · have hE : ES w wr B D K A Y ml r aL aJ aI cL cJ cI n0 n1 n2 kl := hE
        have hf : sel q n0 n1 n2 0 = q := rfl
        rw [hf]
        clear hf p1 p2 p3
        have a0 : wr.cell? ⟨B, 5, none⟩ = some (.int .i64 m.p0.bas) := by have h := hE.mb.key.1.1; have e : (ml).p0 = m.p0 := HQ0.out; rw [e] at h; exact h
        have a1 : wr.cell? ⟨B, 6, none⟩ = some (.int .i64 m.p0.stp) := by have h := hE.mb.key.1.2; have e : (ml).p0 = m.p0 := HQ0.out; rw [e] at h; exact h
        have HEN : Hid (x0 = foP r.2.2.2 g0 n0 q m.p0 kl) := E0.out
        obtain ⟨ax, ae, hA, HAX⟩ : ∃ (ax : Ky) (ae : Int), (∀ W, Calls Tryz.prog 57 #[.agg #[.int .i64 m.p0.bas, .int .i64 m.p0.stp], .int .i64 1] W fun e w' => e = .returned (.tuple #[.agg #[.int .i64 ax.bas, .int .i64 ax.stp], .int .i64 ae]) ∧ Below W.heap.size W w') ∧ Hid (g0 = false → (ae = 0 ∧ x0 = (0, ax) ∧ gk ax = true) ∨ (ae = 4 ∧ x0 = (4, zK))) := by
          cases hv : advB m.p0 with
          | true => exact ⟨adv m.p0, 0, adv_yes HP0.out hv, fun hg => .inl ⟨rfl, by rw [HEN.out, hg, fo_adv, hv]; rfl, adv_good hv⟩⟩
          | false => exact ⟨zK, 4, adv_no HP0.out hv, fun hg => .inr ⟨rfl, by rw [HEN.out, hg, fo_adv, hv]; rfl⟩⟩
        go_wp2_with fail
        refine (hA _).mono ?_
        rintro e w8 ⟨rfl, hb8⟩
        have hb9 := Wi.Below.join hb8 (below_alloc w8 (.cells #[.int .i64 ax.bas, .int .i64 ax.stp] 23))
        have hE9 := hE.later hb9
        have hF9 : KyAt (w8.alloc (.cells #[.int .i64 ax.bas, .int .i64 ax.stp] 23)) w8.heap.size ax := KyAt.new w8 ax
        have hFY : w8.heap.size ≠ Y := Nat.ne_of_gt (hE.later hb8).ky.lt
        have hFB : w8.heap.size ≠ B := Nat.ne_of_gt (hE.later hb8).mb.lt
        have gF : w.heap.size ≤ w8.heap.size := (hE.later hb8).bel.size
        clear hE hb8 hb9 hA a0 a1
        go_upto_region 12 with (fail)
        generalize w8.alloc (.cells #[.int .i64 ax.bas, .int .i64 ax.stp] 23) = w9 at *
        generalize w8.heap.size = F at *
        obtain ⟨m0, m1, m2⟩ := hE9.nd.cells
        go_wp2_with fail
        refine (HIN0.out _).mono ?_
        rintro e w9 ⟨rfl, rfl⟩
        clear m0 m1 m2
        cases g0 with
        | false =>
          rcases HAX.out rfl with ⟨h1, h2, h3⟩ | ⟨h1, h2⟩
          · have HGZ : Hid (gk ax = true) := h3
            subst h1
            subst h2
            clear HAX HEN h3
            go_upto_region 21 with (fail)
            obtain ⟨⟨a0, a1⟩, ⟨a2, a3⟩, a4, a5⟩ := hE9.mb.key
            have f5 := hE9.mb.fr 5
            have f6 := hE9.mb.fr 6
            obtain ⟨k0, k1⟩ := hF9.cells
            go_upto_region 22 with (fail)
            have hE11 := hE9.set0 ax
            have hF11 : KyAt ((w9.setCell ⟨B, 5, none⟩ (.int .i64 ax.bas)).setCell ⟨B, 6, none⟩ (.int .i64 ax.stp)) F ax := two_other hF9 hFB _ _ _ _
            clear hE9 hF9 a0 a1 a2 a3 a4 a5 f5 f6 k0 k1 hFB
            generalize (w9.setCell ⟨B, 5, none⟩ (.int .i64 ax.bas)).setCell ⟨B, 6, none⟩ (.int .i64 ax.stp) = w12 at *
            have hED := hE11.later (drew_below _)
            have hFD := hF11.later (drew_below _)
            clear hE11 hF11
            have HED : Hid _ := hED
            have HFY : Hid (F ≠ Y) := hFY
            have HAY : Hid (A ≠ Y) := block_ne hED.nd hED.ky (by decide)
            have hS0 : KyAt w12.drew F ax ∧ N3 w12.drew A n0 n1 n2 := ⟨hFD, hED.nd⟩
            clear hED hFD hFY
            refine wp_region_held_drew (S := fun W => KyAt W F ax ∧ N3 W A n0 n1 n2) (by kernel_rfl) hS0 (fun hHeld => ?_)
            clear hS0
            obtain ⟨y0, y1⟩ := HED.out.ky.cells
            have u0 := Rt.row_frozen HED.out.ky 0
            have u1 := Rt.row_frozen HED.out.ky 1
            generalize w12.drew = wd at *
            refine wpAnyH_take (i := 0) (oi := { dst := some 85, op := Op.move (Operand.tmp 12), type := _, pos := _, after := _, guard := none }) (v := .int .i64 0) rfl (by kernel_rfl) (by kernel_rfl) (by kernel_rfl) (fun _ _ _ h => h) (Or.inl ⟨by rfl, fun w hSw => by (try dsimp only at hSw); go_simp⟩) (by assumption) ?_
            simp only [Act.put, List.setIfInBounds_toArray, List.set_cons_zero, List.set_cons_succ]
            refine wpAnyH_take (i := 1) (oi := { dst := some 86, op := Op.indexAddr 101 (Operand.tmp 6) (Operand.tmp 85), type := _, pos := _, after := _, guard := none }) (v := .pointer (some ⟨A, 0, none⟩)) rfl (by kernel_rfl) (by kernel_rfl) (by kernel_rfl) (fun _ _ _ h => h) (Or.inl ⟨by rfl, fun w hSw => by (try dsimp only at hSw); go_simp⟩) (by assumption) ?_
            simp only [Act.put, List.setIfInBounds_toArray, List.set_cons_zero, List.set_cons_succ]
            refine wpAnyH_take (i := 2) (oi := { dst := some 87, op := Op.load 3 (Operand.tmp 86), type := _, pos := _, after := _, guard := none }) (v := .int .i64 n0) rfl (by kernel_rfl) (by kernel_rfl) (by kernel_rfl) (fun _ _ _ h => h) (Or.inl ⟨by rfl, fun w hSw => by obtain ⟨c0, c1, c2⟩ := hSw.2.cells; clear hSw y0 y1 u0 u1; go_simp⟩) (by assumption) ?_
            simp only [Act.put, List.setIfInBounds_toArray, List.set_cons_zero, List.set_cons_succ]
            refine wpAnyH_take (i := 3) (oi := { dst := some 88, op := Op.load 23 (Operand.tmp 13), type := _, pos := _, after := _, guard := none }) (v := .agg #[.int .i64 ax.bas, .int .i64 ax.stp]) rfl (by kernel_rfl) (by kernel_rfl) (by kernel_rfl) (fun _ _ _ h => h) (Or.inl ⟨by rfl, fun w hSw => by obtain ⟨c0, c1⟩ := hSw.1.cells; clear hSw y0 y1 u0 u1; go_simp⟩) (by assumption) ?_
            simp only [Act.put, List.setIfInBounds_toArray, List.set_cons_zero, List.set_cons_succ]
            refine wpAnyH_take (i := 4) (oi := { dst := some 11, op := Op.assign (Operand.tmp 87), type := _, pos := _, after := _, guard := none }) (v := .int .i64 n0) rfl (by kernel_rfl) (by kernel_rfl) (by kernel_rfl) (fun _ _ _ h => h) (Or.inl ⟨by rfl, fun w hSw => by (try dsimp only at hSw); go_simp⟩) (by assumption) ?_
            simp only [Act.put, List.setIfInBounds_toArray, List.set_cons_zero, List.set_cons_succ]
            refine wpAnyH_ready (rs := [5]) (by kernel_rfl) (by simp) ?_
            refine AllReadyH.cons rfl (fun K hK => ?_) AllReadyH.nil
            go_simp
            refine hK.out _ _ ⟨two_other hHeld.1 HFY.out _ _ _ _, two_other hHeld.2 HAY.out _ _ _ _⟩ (fun hHeld2 => ?_)
            clear hHeld
            clear hK K
            try simp only [Act.put, List.setIfInBounds_toArray, List.set_cons_zero, List.set_cons_succ]
            refine wpAnyH_done (by kernel_rfl) ?_ _
            clear y0 y1 u0 u1 hHeld2
            have hE13 := HED.out.setY ax
            clear HED HFY HAY
            generalize (wd.setCell ⟨Y, 0, none⟩ (.int .i64 ax.bas)).setCell ⟨Y, 1, none⟩ (.int .i64 ax.stp) = w13 at *
            go_wp2_with fail
            go_roundw
            case rel => exact ⟨1, by omega, rfl, rfl, hE13, fun _ => ⟨by first | rfl | trivial, HGZ.out⟩, fun h => by omega, fun h => by omega⟩
            case measure => simp [intOf]
          · have HXI : Hid (x0 = (4, zK)) := h2
            have HER : ER = 4 := HR0.out _ (by rw [HXI.out]) (by decide)
            have HERH : Hid (ER = 4) := HER
            subst h1
            have hre := hE9.re
            clear HAX HEN h2 HER
            go_wp2_with (first | (refine ldMb hE9.mb rfl _ rfl rfl rfl ?_) | (refine stMb hre rfl rfl _ _ rfl rfl rfl ?_))
            refine bodyPost_ret (resRow (p := 4) (t := 5) rfl _ _ K (mba ml) rfl (hre.row ml).var) rfl ?_
            exact ⟨HNO.out 4 HERH.out (by decide) _, Rt.setRow_below hE9.gK hE9.bel _⟩
        | true =>
          obtain ⟨b1, hb1⟩ : ∃ b, fsB r.2.2.2 n0 q = b := ⟨_, rfl⟩
          obtain ⟨o1, ho1⟩ : ∃ o, fsO r.2.2.2 n0 q = o := ⟨_, rfl⟩
          have hf1 := fun W (hW : RL W r aL aJ aI) => HFI.out n0 q W hW
          simp only [hb1, ho1] at hf1
          have HOWN : Hid (o1 = true → fstI r.2.2.2 n0 q = some b1 ∧ x0 = if opn b1 kl then (0, ldK b1) else (5, zK)) := fun h => by
            rw [HEN.out, ← hb1]
            rw [← ho1] at h
            exact ⟨fs_yes h, fo_own h⟩
          have HNON : Hid (o1 = false → x0 = (23, zK)) := fun h => by
            rw [HEN.out]
            rw [← ho1] at h
            exact fo_none h
          clear hb1 ho1 HAX HEN
          unfold bxa at hf1
          have HF1 : Hid _ := hf1
          clear hf1
          go_upto_region 13 with (fail)
          go_cut [15, 16] (fun s12 s13 wx => ∃ X, s12 = .pointer (some ⟨X, 0, none⟩) ∧ s13 = .bool o1 ∧ ES w wx B D K A Y ml r aL aJ aI cL cJ cI n0 n1 n2 kl ∧ BA wx X b1 ∧ w.heap.size ≤ X ∧ KyAt wx F ax)
          case first =>
            have hS0 : ES w w9.drew B D K A Y ml r aL aJ aI cL cJ cI n0 n1 n2 kl ∧ KyAt w9.drew F ax := ⟨hE9.later (drew_below _), hF9.later (drew_below _)⟩
            clear hE9 hF9
            refine wp_region_held_drew (S := fun W => ES w W B D K A Y ml r aL aJ aI cL cJ cI n0 n1 n2 kl ∧ KyAt W F ax) (by kernel_rfl) hS0 (fun hHeld => ?_)
            clear hS0
            generalize w9.drew = wd at *
            refine wpAnyH_take (i := 0) (oi := { dst := some 58, op := Op.load 31 (Operand.tmp 3), type := _, pos := _, after := _, guard := none }) (v := .agg #[.int .i64 r.1, .slice aL r.2.1.length cL, .slice aJ r.2.2.1.length cJ, .slice aI r.2.2.2.length cI]) rfl (by kernel_rfl) (by kernel_rfl) (by kernel_rfl) (fun _ _ _ h => h) (Or.inl ⟨by rfl, fun w hSw => rk_exec hSw.1.rk rfl rfl⟩) (by assumption) ?_
            simp only [Act.put, List.setIfInBounds_toArray, List.set_cons_zero, List.set_cons_succ]
            refine wpAnyH_take (i := 1) (oi := { dst := some 59, op := Op.move (Operand.tmp 12), type := _, pos := _, after := _, guard := none }) (v := .int .i64 0) rfl (by kernel_rfl) (by kernel_rfl) (by kernel_rfl) (fun _ _ _ h => h) (Or.inl ⟨by rfl, fun w hSw => by (try dsimp only at hSw); go_simp⟩) (by assumption) ?_
            simp only [Act.put, List.setIfInBounds_toArray, List.set_cons_zero, List.set_cons_succ]
            refine wpAnyH_take (i := 2) (oi := { dst := some 60, op := Op.indexAddr 101 (Operand.tmp 6) (Operand.tmp 59), type := _, pos := _, after := _, guard := none }) (v := .pointer (some ⟨A, 0, none⟩)) rfl (by kernel_rfl) (by kernel_rfl) (by kernel_rfl) (fun _ _ _ h => h) (Or.inl ⟨by rfl, fun w hSw => by (try dsimp only at hSw); go_simp⟩) (by assumption) ?_
            simp only [Act.put, List.setIfInBounds_toArray, List.set_cons_zero, List.set_cons_succ]
            refine wpAnyH_take (i := 3) (oi := { dst := some 61, op := Op.load 3 (Operand.tmp 60), type := _, pos := _, after := _, guard := none }) (v := .int .i64 n0) rfl (by kernel_rfl) (by kernel_rfl) (by kernel_rfl) (fun _ _ _ h => h) (Or.inl ⟨by rfl, fun w hSw => by obtain ⟨c0, c1, c2⟩ := hSw.1.nd.cells; clear hSw; go_simp⟩) (by assumption) ?_
            simp only [Act.put, List.setIfInBounds_toArray, List.set_cons_zero, List.set_cons_succ]
            refine wpAnyH_take (i := 4) (oi := { dst := some 62, op := Op.move (Operand.tmp 11), type := _, pos := _, after := _, guard := none }) (v := .int .i64 q) rfl (by kernel_rfl) (by kernel_rfl) (by kernel_rfl) (fun _ _ _ h => h) (Or.inl ⟨by rfl, fun w hSw => by (try dsimp only at hSw); go_simp⟩) (by assumption) ?_
            simp only [Act.put, List.setIfInBounds_toArray, List.set_cons_zero, List.set_cons_succ]
            refine wpAnyH_ready (rs := [5, 9]) (by kernel_rfl) (by simp) ?_
            refine (AllReadyH.cons rfl (fun K hK => ?_) (AllReadyH.cons rfl (fun K hK => ?_) AllReadyH.nil))
            · go_simp
              refine (HF1.out _ (HRL.out.later hHeld.1.bel)).mono ?_
              rintro e w10 ⟨rfl, hb10⟩
              go_wp2_with fail
              try (have hz := hz.later hb10)
              refine hK.out _ _ ⟨hHeld.1.later hb10, hHeld.2.later hb10⟩ (fun hHd1 => ?_)
              clear hHeld hb10
              clear hK K
              try simp only [Act.put, List.setIfInBounds_toArray, List.set_cons_zero, List.set_cons_succ]
              refine wpAnyH_take (i := 6) (oi := { dst := some 57, op := Op.move (Operand.tmp 63), type := _, pos := _, after := _, guard := none }) (v := .tuple #[.agg #[.int .i64 b1.1.1, .int .i64 b1.1.2, .int .i64 b1.2.1, .int .i64 b1.2.2], .bool o1]) rfl (by kernel_rfl) (by kernel_rfl) (by kernel_rfl) (fun _ _ _ h => h) (Or.inl ⟨by rfl, fun w hSw => by (try dsimp only at hSw); go_simp⟩) (by assumption) ?_
              simp only [Act.put, List.setIfInBounds_toArray, List.set_cons_zero, List.set_cons_succ]
              refine wpAnyH_take (i := 7) (oi := { dst := some 64, op := Op.extract (Operand.tmp 57) 0, type := _, pos := _, after := _, guard := none }) (v := .agg #[.int .i64 b1.1.1, .int .i64 b1.1.2, .int .i64 b1.2.1, .int .i64 b1.2.2]) rfl (by kernel_rfl) (by kernel_rfl) (by kernel_rfl) (fun _ _ _ h => h) (Or.inl ⟨by rfl, fun w hSw => by (try dsimp only at hSw); go_simp⟩) (by assumption) ?_
              simp only [Act.put, List.setIfInBounds_toArray, List.set_cons_zero, List.set_cons_succ]
              refine wpAnyH_take (i := 8) (oi := { dst := some 65, op := Op.extract (Operand.tmp 57) 1, type := _, pos := _, after := _, guard := none }) (v := .bool o1) rfl (by kernel_rfl) (by kernel_rfl) (by kernel_rfl) (fun _ _ _ h => h) (Or.inl ⟨by rfl, fun w hSw => by (try dsimp only at hSw); go_simp⟩) (by assumption) ?_
              simp only [Act.put, List.setIfInBounds_toArray, List.set_cons_zero, List.set_cons_succ]
              refine wpAnyH_ready (rs := [9]) (by kernel_rfl) (by simp) ?_
              refine AllReadyH.cons rfl (fun K hK => ?_) AllReadyH.nil
              go_simp
              have hgX := hHd1.1.bel.size
              refine hK.out _ _ ⟨hHd1.1.later (below_alloc _ _), hHd1.2.later (below_alloc _ _)⟩ (fun hHd2 => ?_)
              have hz := bx_of hHd2.1.bel
              clear hHd1
              clear hK K
              try simp only [Act.put, List.setIfInBounds_toArray, List.set_cons_zero, List.set_cons_succ]
              refine wpAnyH_ready (rs := [10]) (by kernel_rfl) (by simp) ?_
              refine AllReadyH.cons rfl (fun Kc hK => ?_) AllReadyH.nil
              refine if_wp rfl (wp_stRow0 58 _ _ rfl _ (bxa b1) rfl rfl 58 _ hz infoBx4 rfl (by simp [bxa, Value.oneCell']) rfl ?_)
              have hzZ := Rt.heap_setRow_same hz (bxa b1)
              refine hK.out _ _ ⟨hHd2.1.box hz hgX _, (Rt.row_other (block_ne hHd2.2 hz (by decide)) _).trans hHd2.2⟩ (fun hHd3 => ?_)
              clear hHd2
              clear hK Kc
              try simp only [Act.put, List.setIfInBounds_toArray, List.set_cons_zero, List.set_cons_succ]
              refine wpAnyH_take (i := 11) (oi := { dst := some 16, op := Op.assign (Operand.tmp 65), type := _, pos := _, after := _, guard := none }) (v := .bool o1) rfl (by kernel_rfl) (by kernel_rfl) (by kernel_rfl) (fun _ _ _ h => h) (Or.inl ⟨by rfl, fun w hSw => by (try dsimp only at hSw); go_simp⟩) (by assumption) ?_
              simp only [Act.put, List.setIfInBounds_toArray, List.set_cons_zero, List.set_cons_succ]
              refine wpAnyH_done (by kernel_rfl) ?_ _
              go_wp2_with fail
              go_meet
              case rel => exact ⟨_, rfl, rfl, hHd3.1, hzZ, hgX, hHd3.2⟩
            · go_simp
              have hgX := hHeld.1.bel.size
              refine hK.out _ _ ⟨hHeld.1.later (below_alloc _ _), hHeld.2.later (below_alloc _ _)⟩ (fun hHd1 => ?_)
              have hz := bx_of hHd1.1.bel
              clear hHeld
              clear hK K
              try simp only [Act.put, List.setIfInBounds_toArray, List.set_cons_zero, List.set_cons_succ]
              refine wpAnyH_ready (rs := [5]) (by kernel_rfl) (by simp) ?_
              refine AllReadyH.cons rfl (fun K hK => ?_) AllReadyH.nil
              go_simp
              refine (HF1.out _ (HRL.out.later hHd1.1.bel)).mono ?_
              rintro e w10 ⟨rfl, hb10⟩
              go_wp2_with fail
              try (have hz := hz.later hb10)
              refine hK.out _ _ ⟨hHd1.1.later hb10, hHd1.2.later hb10⟩ (fun hHd2 => ?_)
              clear hHd1 hb10
              clear hK K
              try simp only [Act.put, List.setIfInBounds_toArray, List.set_cons_zero, List.set_cons_succ]
              refine wpAnyH_take (i := 6) (oi := { dst := some 57, op := Op.move (Operand.tmp 63), type := _, pos := _, after := _, guard := none }) (v := .tuple #[.agg #[.int .i64 b1.1.1, .int .i64 b1.1.2, .int .i64 b1.2.1, .int .i64 b1.2.2], .bool o1]) rfl (by kernel_rfl) (by kernel_rfl) (by kernel_rfl) (fun _ _ _ h => h) (Or.inl ⟨by rfl, fun w hSw => by (try dsimp only at hSw); go_simp⟩) (by assumption) ?_
              simp only [Act.put, List.setIfInBounds_toArray, List.set_cons_zero, List.set_cons_succ]
              refine wpAnyH_take (i := 7) (oi := { dst := some 64, op := Op.extract (Operand.tmp 57) 0, type := _, pos := _, after := _, guard := none }) (v := .agg #[.int .i64 b1.1.1, .int .i64 b1.1.2, .int .i64 b1.2.1, .int .i64 b1.2.2]) rfl (by kernel_rfl) (by kernel_rfl) (by kernel_rfl) (fun _ _ _ h => h) (Or.inl ⟨by rfl, fun w hSw => by (try dsimp only at hSw); go_simp⟩) (by assumption) ?_
              simp only [Act.put, List.setIfInBounds_toArray, List.set_cons_zero, List.set_cons_succ]
              refine wpAnyH_take (i := 8) (oi := { dst := some 65, op := Op.extract (Operand.tmp 57) 1, type := _, pos := _, after := _, guard := none }) (v := .bool o1) rfl (by kernel_rfl) (by kernel_rfl) (by kernel_rfl) (fun _ _ _ h => h) (Or.inl ⟨by rfl, fun w hSw => by (try dsimp only at hSw); go_simp⟩) (by assumption) ?_
              simp only [Act.put, List.setIfInBounds_toArray, List.set_cons_zero, List.set_cons_succ]
              refine wpAnyH_ready (rs := [10]) (by kernel_rfl) (by simp) ?_
              refine AllReadyH.cons rfl (fun Kc hK => ?_) AllReadyH.nil
              refine if_wp rfl (wp_stRow0 58 _ _ rfl _ (bxa b1) rfl rfl 58 _ hz infoBx4 rfl (by simp [bxa, Value.oneCell']) rfl ?_)
              have hzZ := Rt.heap_setRow_same hz (bxa b1)
              refine hK.out _ _ ⟨hHd2.1.box hz hgX _, (Rt.row_other (block_ne hHd2.2 hz (by decide)) _).trans hHd2.2⟩ (fun hHd3 => ?_)
              clear hHd2
              clear hK Kc
              try simp only [Act.put, List.setIfInBounds_toArray, List.set_cons_zero, List.set_cons_succ]
              refine wpAnyH_take (i := 11) (oi := { dst := some 16, op := Op.assign (Operand.tmp 65), type := _, pos := _, after := _, guard := none }) (v := .bool o1) rfl (by kernel_rfl) (by kernel_rfl) (by kernel_rfl) (fun _ _ _ h => h) (Or.inl ⟨by rfl, fun w hSw => by (try dsimp only at hSw); go_simp⟩) (by assumption) ?_
              simp only [Act.put, List.setIfInBounds_toArray, List.set_cons_zero, List.set_cons_succ]
              refine wpAnyH_done (by kernel_rfl) ?_ _
              go_wp2_with fail
              go_meet
              case rel => exact ⟨_, rfl, rfl, hHd3.1, hzZ, hgX, hHd3.2⟩
          case rest =>
            obtain ⟨X, rfl, rfl, hEc, hXc, gXc, hFc⟩ := hcut
            clear hE9 hF9 HF1
            cases o1 with
            | false =>
              have HXI : Hid (x0 = (23, zK)) := HNON.out rfl
              have HER : ER = 23 := HR0.out _ (by rw [HXI.out]) (by decide)
              have HERH : Hid (ER = 23) := HER
              have hre := hEc.re
              clear HNON HOWN HER
              go_wp2_with (first | (refine ldMb hEc.mb rfl _ rfl rfl rfl ?_) | (refine stMb hre rfl rfl _ _ rfl rfl rfl ?_))
              refine bodyPost_ret (resRow (p := 4) (t := 5) rfl _ _ K (mba ml) rfl (hre.row ml).var) rfl ?_
              exact ⟨HNO.out 23 HERH.out (by decide) _, Rt.setRow_below hEc.gK hEc.bel _⟩
            | true =>
              obtain ⟨hfst, hxe⟩ := HOWN.out rfl
              have HP : Hid (x0 = if opn b1 kl then (0, ldK b1) else (5, zK)) := hxe
              have HGB : Hid (gK b1.1 = true ∧ gK b1.2 = true) := fst_good HI.out hfst
              have HGW : Hid (gk kl = true) := HGL.out
              clear hfst hxe HOWN HNON
              obtain ⟨⟨z0, z1⟩, z2, z3⟩ := b1
              obtain ⟨az, hz2, hz3⟩ : ∃ az : Ky, az.bas = z2 ∧ az.stp = z3 := ⟨⟨z2, z3⟩, rfl, rfl⟩
              subst hz2 hz3
              obtain ⟨q0, q1, q2, q3⟩ := hXc.cells
              obtain ⟨v0, v1⟩ := hEc.ky.cells
              dsimp only at q0 q1 q2 q3
              cases hop : opn ((z0, z1), (az.bas, az.stp)) kl with
              | true =>
                have hO := Rt.rOpen_yes z0 z1 az.bas az.stp _ _ (Rt.gd_iff.1 HGB.out.1) (Rt.gd_iff.1 HGB.out.2) (Rt.gd_iff.1 HGW.out) hop
                have hxi : x0 = (0, az) := by have := HP.out; rw [hop] at this; exact this
                have HGZ : Hid (gk az = true) := HGB.out.2
                clear HP hop HGB HGW
                subst hxi
                go_wp2_with fail
                refine (hO _).mono ?_
                rintro e w11 ⟨rfl, hb11⟩
                have hEd := hEc.later hb11
                have hFd := hFc.later hb11
                clear hO hEc hXc hFc hb11 q0 q1 q2 q3 v0 v1
                go_upto_region 17 with (refine stKy hFd az rfl _ _ rfl rfl rfl ?_)
                have hE9 := hEd.key hFd hFY gF #[.int .i64 az.bas, .int .i64 az.stp]
                have hF9 : KyAt (w11.setRow F #[.int .i64 az.bas, .int .i64 az.stp]) F az := KyAt.row hFd az
                clear hEd hFd
                generalize w11.setRow F #[.int .i64 az.bas, .int .i64 az.stp] = w9 at *
                clear ax ae
                obtain ⟨ax, hax⟩ : ∃ ax : Ky, ax = az := ⟨_, rfl⟩
                subst hax
                go_upto_region 21 with (fail)
                obtain ⟨⟨a0, a1⟩, ⟨a2, a3⟩, a4, a5⟩ := hE9.mb.key
                have f5 := hE9.mb.fr 5
                have f6 := hE9.mb.fr 6
                obtain ⟨k0, k1⟩ := hF9.cells
                go_upto_region 22 with (fail)
                have hE11 := hE9.set0 ax
                have hF11 : KyAt ((w9.setCell ⟨B, 5, none⟩ (.int .i64 ax.bas)).setCell ⟨B, 6, none⟩ (.int .i64 ax.stp)) F ax := two_other hF9 hFB _ _ _ _
                clear hE9 hF9 a0 a1 a2 a3 a4 a5 f5 f6 k0 k1 hFB
                generalize (w9.setCell ⟨B, 5, none⟩ (.int .i64 ax.bas)).setCell ⟨B, 6, none⟩ (.int .i64 ax.stp) = w12 at *
                have hED := hE11.later (drew_below _)
                have hFD := hF11.later (drew_below _)
                clear hE11 hF11
                have HED : Hid _ := hED
                have HFY : Hid (F ≠ Y) := hFY
                have HAY : Hid (A ≠ Y) := block_ne hED.nd hED.ky (by decide)
                have hS0 : KyAt w12.drew F ax ∧ N3 w12.drew A n0 n1 n2 := ⟨hFD, hED.nd⟩
                clear hED hFD hFY
                refine wp_region_held_drew (S := fun W => KyAt W F ax ∧ N3 W A n0 n1 n2) (by kernel_rfl) hS0 (fun hHeld => ?_)
                clear hS0
                obtain ⟨y0, y1⟩ := HED.out.ky.cells
                have u0 := Rt.row_frozen HED.out.ky 0
                have u1 := Rt.row_frozen HED.out.ky 1
                generalize w12.drew = wd at *
                refine wpAnyH_take (i := 0) (oi := { dst := some 85, op := Op.move (Operand.tmp 12), type := _, pos := _, after := _, guard := none }) (v := .int .i64 0) rfl (by kernel_rfl) (by kernel_rfl) (by kernel_rfl) (fun _ _ _ h => h) (Or.inl ⟨by rfl, fun w hSw => by (try dsimp only at hSw); go_simp⟩) (by assumption) ?_
                simp only [Act.put, List.setIfInBounds_toArray, List.set_cons_zero, List.set_cons_succ]
                refine wpAnyH_take (i := 1) (oi := { dst := some 86, op := Op.indexAddr 101 (Operand.tmp 6) (Operand.tmp 85), type := _, pos := _, after := _, guard := none }) (v := .pointer (some ⟨A, 0, none⟩)) rfl (by kernel_rfl) (by kernel_rfl) (by kernel_rfl) (fun _ _ _ h => h) (Or.inl ⟨by rfl, fun w hSw => by (try dsimp only at hSw); go_simp⟩) (by assumption) ?_
                simp only [Act.put, List.setIfInBounds_toArray, List.set_cons_zero, List.set_cons_succ]
                refine wpAnyH_take (i := 2) (oi := { dst := some 87, op := Op.load 3 (Operand.tmp 86), type := _, pos := _, after := _, guard := none }) (v := .int .i64 n0) rfl (by kernel_rfl) (by kernel_rfl) (by kernel_rfl) (fun _ _ _ h => h) (Or.inl ⟨by rfl, fun w hSw => by obtain ⟨c0, c1, c2⟩ := hSw.2.cells; clear hSw y0 y1 u0 u1; go_simp⟩) (by assumption) ?_
                simp only [Act.put, List.setIfInBounds_toArray, List.set_cons_zero, List.set_cons_succ]
                refine wpAnyH_take (i := 3) (oi := { dst := some 88, op := Op.load 23 (Operand.tmp 13), type := _, pos := _, after := _, guard := none }) (v := .agg #[.int .i64 ax.bas, .int .i64 ax.stp]) rfl (by kernel_rfl) (by kernel_rfl) (by kernel_rfl) (fun _ _ _ h => h) (Or.inl ⟨by rfl, fun w hSw => by obtain ⟨c0, c1⟩ := hSw.1.cells; clear hSw y0 y1 u0 u1; go_simp⟩) (by assumption) ?_
                simp only [Act.put, List.setIfInBounds_toArray, List.set_cons_zero, List.set_cons_succ]
                refine wpAnyH_take (i := 4) (oi := { dst := some 11, op := Op.assign (Operand.tmp 87), type := _, pos := _, after := _, guard := none }) (v := .int .i64 n0) rfl (by kernel_rfl) (by kernel_rfl) (by kernel_rfl) (fun _ _ _ h => h) (Or.inl ⟨by rfl, fun w hSw => by (try dsimp only at hSw); go_simp⟩) (by assumption) ?_
                simp only [Act.put, List.setIfInBounds_toArray, List.set_cons_zero, List.set_cons_succ]
                refine wpAnyH_ready (rs := [5]) (by kernel_rfl) (by simp) ?_
                refine AllReadyH.cons rfl (fun K hK => ?_) AllReadyH.nil
                go_simp
                refine hK.out _ _ ⟨two_other hHeld.1 HFY.out _ _ _ _, two_other hHeld.2 HAY.out _ _ _ _⟩ (fun hHeld2 => ?_)
                clear hHeld
                clear hK K
                try simp only [Act.put, List.setIfInBounds_toArray, List.set_cons_zero, List.set_cons_succ]
                refine wpAnyH_done (by kernel_rfl) ?_ _
                clear y0 y1 u0 u1 hHeld2
                have hE13 := HED.out.setY ax
                clear HED HFY HAY
                generalize (wd.setCell ⟨Y, 0, none⟩ (.int .i64 ax.bas)).setCell ⟨Y, 1, none⟩ (.int .i64 ax.stp) = w13 at *
                go_wp2_with fail
                go_roundw
                case rel => exact ⟨1, by omega, rfl, rfl, hE13, fun _ => ⟨by first | rfl | trivial, HGZ.out⟩, fun h => by omega, fun h => by omega⟩
                case measure => simp [intOf]
              | false =>
                have hO := Rt.rOpen_off z0 z1 az.bas az.stp _ _ (Rt.gd_iff.1 HGB.out.1) (Rt.gd_iff.1 HGB.out.2) (Rt.gd_iff.1 HGW.out) hop
                have HXI : Hid (x0 = (5, zK)) := by have := HP.out; rw [hop] at this; exact this
                have HER : ER = 5 := HR0.out _ (by rw [HXI.out]) (by decide)
                have HERH : Hid (ER = 5) := HER
                clear HP hop HGB HGW HER
                go_wp2_with fail
                refine (hO _).mono ?_
                rintro e w11 ⟨rfl, hb11⟩
                have hEd := hEc.later hb11
                have hFd := hFc.later hb11
                clear hO hEc hXc hFc hb11 q0 q1 q2 q3 v0 v1
                go_upto_region 17 with (refine stKy hFd zK rfl _ _ rfl rfl rfl ?_)
                have hE9 := hEd.key hFd hFY gF #[.int .i64 zK.bas, .int .i64 zK.stp]
                clear hEd hFd
                generalize w11.setRow F #[.int .i64 zK.bas, .int .i64 zK.stp] = w9 at *
                have hre := hE9.re
                go_wp2_with (first | (refine ldMb hE9.mb rfl _ rfl rfl rfl ?_) | (refine stMb hre rfl rfl _ _ rfl rfl rfl ?_))
                refine bodyPost_ret (resRow (p := 4) (t := 5) rfl _ _ K (mba ml) rfl (hre.row ml).var) rfl ?_
                exact ⟨HNO.out 5 HERH.out (by decide) _, Rt.setRow_below hE9.gK hE9.bel _⟩
      · have hE : ES w wr B D K A Y (pt0 ml x0.2) r aL aJ aI cL cJ cI n0 n1 n2 x0.2 := hE
        have hf : sel q n0 n1 n2 1 = n0 := rfl
        rw [hf]
        have Z0 : Hid (x0.1 = 0 ∧ gk x0.2 = true) := p1 (by omega)
        clear hf p1 p2 p3
        have a0 : wr.cell? ⟨B, 7, none⟩ = some (.int .i64 m.p1.bas) := by have h := hE.mb.key.2.1.1; have e : ((pt0 ml x0.2)).p1 = m.p1 := HQ1.out; rw [e] at h; exact h
        have a1 : wr.cell? ⟨B, 8, none⟩ = some (.int .i64 m.p1.stp) := by have h := hE.mb.key.2.1.2; have e : ((pt0 ml x0.2)).p1 = m.p1 := HQ1.out; rw [e] at h; exact h
        have HEN : Hid (x1 = foP r.2.2.2 g1 n1 n0 m.p1 x0.2) := E1.out
        obtain ⟨ax, ae, hA, HAX⟩ : ∃ (ax : Ky) (ae : Int), (∀ W, Calls Tryz.prog 57 #[.agg #[.int .i64 m.p1.bas, .int .i64 m.p1.stp], .int .i64 1] W fun e w' => e = .returned (.tuple #[.agg #[.int .i64 ax.bas, .int .i64 ax.stp], .int .i64 ae]) ∧ Below W.heap.size W w') ∧ Hid (g1 = false → (ae = 0 ∧ x1 = (0, ax) ∧ gk ax = true) ∨ (ae = 4 ∧ x1 = (4, zK))) := by
          cases hv : advB m.p1 with
          | true => exact ⟨adv m.p1, 0, adv_yes HP1.out hv, fun hg => .inl ⟨rfl, by rw [HEN.out, hg, fo_adv, hv]; rfl, adv_good hv⟩⟩
          | false => exact ⟨zK, 4, adv_no HP1.out hv, fun hg => .inr ⟨rfl, by rw [HEN.out, hg, fo_adv, hv]; rfl⟩⟩
        go_wp2_with fail
        refine (hA _).mono ?_
        rintro e w8 ⟨rfl, hb8⟩
        have hb9 := Wi.Below.join hb8 (below_alloc w8 (.cells #[.int .i64 ax.bas, .int .i64 ax.stp] 23))
        have hE9 := hE.later hb9
        have hF9 : KyAt (w8.alloc (.cells #[.int .i64 ax.bas, .int .i64 ax.stp] 23)) w8.heap.size ax := KyAt.new w8 ax
        have hFY : w8.heap.size ≠ Y := Nat.ne_of_gt (hE.later hb8).ky.lt
        have hFB : w8.heap.size ≠ B := Nat.ne_of_gt (hE.later hb8).mb.lt
        have gF : w.heap.size ≤ w8.heap.size := (hE.later hb8).bel.size
        clear hE hb8 hb9 hA a0 a1
        go_upto_region 12 with (fail)
        generalize w8.alloc (.cells #[.int .i64 ax.bas, .int .i64 ax.stp] 23) = w9 at *
        generalize w8.heap.size = F at *
        obtain ⟨m0, m1, m2⟩ := hE9.nd.cells
        go_wp2_with fail
        refine (HIN1.out _).mono ?_
        rintro e w9 ⟨rfl, rfl⟩
        clear m0 m1 m2
        cases g1 with
        | false =>
          rcases HAX.out rfl with ⟨h1, h2, h3⟩ | ⟨h1, h2⟩
          · have HGZ : Hid (gk ax = true) := h3
            subst h1
            subst h2
            clear HAX HEN h3
            go_upto_region 21 with (fail)
            obtain ⟨⟨a0, a1⟩, ⟨a2, a3⟩, a4, a5⟩ := hE9.mb.key
            have f5 := hE9.mb.fr 7
            have f6 := hE9.mb.fr 8
            obtain ⟨k0, k1⟩ := hF9.cells
            go_upto_region 22 with (fail)
            have hE11 := hE9.set1 ax
            have hF11 : KyAt ((w9.setCell ⟨B, 7, none⟩ (.int .i64 ax.bas)).setCell ⟨B, 8, none⟩ (.int .i64 ax.stp)) F ax := two_other hF9 hFB _ _ _ _
            clear hE9 hF9 a0 a1 a2 a3 a4 a5 f5 f6 k0 k1 hFB
            generalize (w9.setCell ⟨B, 7, none⟩ (.int .i64 ax.bas)).setCell ⟨B, 8, none⟩ (.int .i64 ax.stp) = w12 at *
            have hED := hE11.later (drew_below _)
            have hFD := hF11.later (drew_below _)
            clear hE11 hF11
            have HED : Hid _ := hED
            have HFY : Hid (F ≠ Y) := hFY
            have HAY : Hid (A ≠ Y) := block_ne hED.nd hED.ky (by decide)
            have hS0 : KyAt w12.drew F ax ∧ N3 w12.drew A n0 n1 n2 := ⟨hFD, hED.nd⟩
            clear hED hFD hFY
            refine wp_region_held_drew (S := fun W => KyAt W F ax ∧ N3 W A n0 n1 n2) (by kernel_rfl) hS0 (fun hHeld => ?_)
            clear hS0
            obtain ⟨y0, y1⟩ := HED.out.ky.cells
            have u0 := Rt.row_frozen HED.out.ky 0
            have u1 := Rt.row_frozen HED.out.ky 1
            generalize w12.drew = wd at *
            refine wpAnyH_take (i := 0) (oi := { dst := some 85, op := Op.move (Operand.tmp 12), type := _, pos := _, after := _, guard := none }) (v := .int .i64 1) rfl (by kernel_rfl) (by kernel_rfl) (by kernel_rfl) (fun _ _ _ h => h) (Or.inl ⟨by rfl, fun w hSw => by (try dsimp only at hSw); go_simp⟩) (by assumption) ?_
            simp only [Act.put, List.setIfInBounds_toArray, List.set_cons_zero, List.set_cons_succ]
            refine wpAnyH_take (i := 1) (oi := { dst := some 86, op := Op.indexAddr 101 (Operand.tmp 6) (Operand.tmp 85), type := _, pos := _, after := _, guard := none }) (v := .pointer (some ⟨A, 1, none⟩)) rfl (by kernel_rfl) (by kernel_rfl) (by kernel_rfl) (fun _ _ _ h => h) (Or.inl ⟨by rfl, fun w hSw => by (try dsimp only at hSw); go_simp⟩) (by assumption) ?_
            simp only [Act.put, List.setIfInBounds_toArray, List.set_cons_zero, List.set_cons_succ]
            refine wpAnyH_take (i := 2) (oi := { dst := some 87, op := Op.load 3 (Operand.tmp 86), type := _, pos := _, after := _, guard := none }) (v := .int .i64 n1) rfl (by kernel_rfl) (by kernel_rfl) (by kernel_rfl) (fun _ _ _ h => h) (Or.inl ⟨by rfl, fun w hSw => by obtain ⟨c0, c1, c2⟩ := hSw.2.cells; clear hSw y0 y1 u0 u1; go_simp⟩) (by assumption) ?_
            simp only [Act.put, List.setIfInBounds_toArray, List.set_cons_zero, List.set_cons_succ]
            refine wpAnyH_take (i := 3) (oi := { dst := some 88, op := Op.load 23 (Operand.tmp 13), type := _, pos := _, after := _, guard := none }) (v := .agg #[.int .i64 ax.bas, .int .i64 ax.stp]) rfl (by kernel_rfl) (by kernel_rfl) (by kernel_rfl) (fun _ _ _ h => h) (Or.inl ⟨by rfl, fun w hSw => by obtain ⟨c0, c1⟩ := hSw.1.cells; clear hSw y0 y1 u0 u1; go_simp⟩) (by assumption) ?_
            simp only [Act.put, List.setIfInBounds_toArray, List.set_cons_zero, List.set_cons_succ]
            refine wpAnyH_take (i := 4) (oi := { dst := some 11, op := Op.assign (Operand.tmp 87), type := _, pos := _, after := _, guard := none }) (v := .int .i64 n1) rfl (by kernel_rfl) (by kernel_rfl) (by kernel_rfl) (fun _ _ _ h => h) (Or.inl ⟨by rfl, fun w hSw => by (try dsimp only at hSw); go_simp⟩) (by assumption) ?_
            simp only [Act.put, List.setIfInBounds_toArray, List.set_cons_zero, List.set_cons_succ]
            refine wpAnyH_ready (rs := [5]) (by kernel_rfl) (by simp) ?_
            refine AllReadyH.cons rfl (fun K hK => ?_) AllReadyH.nil
            go_simp
            refine hK.out _ _ ⟨two_other hHeld.1 HFY.out _ _ _ _, two_other hHeld.2 HAY.out _ _ _ _⟩ (fun hHeld2 => ?_)
            clear hHeld
            clear hK K
            try simp only [Act.put, List.setIfInBounds_toArray, List.set_cons_zero, List.set_cons_succ]
            refine wpAnyH_done (by kernel_rfl) ?_ _
            clear y0 y1 u0 u1 hHeld2
            have hE13 := HED.out.setY ax
            clear HED HFY HAY
            generalize (wd.setCell ⟨Y, 0, none⟩ (.int .i64 ax.bas)).setCell ⟨Y, 1, none⟩ (.int .i64 ax.stp) = w13 at *
            go_wp2_with fail
            go_roundw
            case rel => exact ⟨2, by omega, rfl, rfl, hE13, fun _ => Z0.out, fun _ => ⟨by first | rfl | trivial, HGZ.out⟩, fun h => by omega⟩
            case measure => simp [intOf]
          · have HXI : Hid (x1 = (4, zK)) := h2
            have HER : ER = 4 := HR1.out _ Z0.out.1 (by rw [HXI.out]) (by decide)
            have HERH : Hid (ER = 4) := HER
            subst h1
            have hre := hE9.re
            clear HAX HEN h2 HER
            go_wp2_with (first | (refine ldMb hE9.mb rfl _ rfl rfl rfl ?_) | (refine stMb hre rfl rfl _ _ rfl rfl rfl ?_))
            refine bodyPost_ret (resRow (p := 4) (t := 5) rfl _ _ K (mba (pt0 ml x0.2)) rfl (hre.row (pt0 ml x0.2)).var) rfl ?_
            exact ⟨HNO.out 4 HERH.out (by decide) _, Rt.setRow_below hE9.gK hE9.bel _⟩
        | true =>
          obtain ⟨b1, hb1⟩ : ∃ b, fsB r.2.2.2 n1 n0 = b := ⟨_, rfl⟩
          obtain ⟨o1, ho1⟩ : ∃ o, fsO r.2.2.2 n1 n0 = o := ⟨_, rfl⟩
          have hf1 := fun W (hW : RL W r aL aJ aI) => HFI.out n1 n0 W hW
          simp only [hb1, ho1] at hf1
          have HOWN : Hid (o1 = true → fstI r.2.2.2 n1 n0 = some b1 ∧ x1 = if opn b1 x0.2 then (0, ldK b1) else (5, zK)) := fun h => by
            rw [HEN.out, ← hb1]
            rw [← ho1] at h
            exact ⟨fs_yes h, fo_own h⟩
          have HNON : Hid (o1 = false → x1 = (23, zK)) := fun h => by
            rw [HEN.out]
            rw [← ho1] at h
            exact fo_none h
          clear hb1 ho1 HAX HEN
          unfold bxa at hf1
          have HF1 : Hid _ := hf1
          clear hf1
          go_upto_region 13 with (fail)
          go_cut [15, 16] (fun s12 s13 wx => ∃ X, s12 = .pointer (some ⟨X, 0, none⟩) ∧ s13 = .bool o1 ∧ ES w wx B D K A Y (pt0 ml x0.2) r aL aJ aI cL cJ cI n0 n1 n2 x0.2 ∧ BA wx X b1 ∧ w.heap.size ≤ X ∧ KyAt wx F ax)
          case first =>
            have hS0 : ES w w9.drew B D K A Y (pt0 ml x0.2) r aL aJ aI cL cJ cI n0 n1 n2 x0.2 ∧ KyAt w9.drew F ax := ⟨hE9.later (drew_below _), hF9.later (drew_below _)⟩
            clear hE9 hF9
            refine wp_region_held_drew (S := fun W => ES w W B D K A Y (pt0 ml x0.2) r aL aJ aI cL cJ cI n0 n1 n2 x0.2 ∧ KyAt W F ax) (by kernel_rfl) hS0 (fun hHeld => ?_)
            clear hS0
            generalize w9.drew = wd at *
            refine wpAnyH_take (i := 0) (oi := { dst := some 58, op := Op.load 31 (Operand.tmp 3), type := _, pos := _, after := _, guard := none }) (v := .agg #[.int .i64 r.1, .slice aL r.2.1.length cL, .slice aJ r.2.2.1.length cJ, .slice aI r.2.2.2.length cI]) rfl (by kernel_rfl) (by kernel_rfl) (by kernel_rfl) (fun _ _ _ h => h) (Or.inl ⟨by rfl, fun w hSw => rk_exec hSw.1.rk rfl rfl⟩) (by assumption) ?_
            simp only [Act.put, List.setIfInBounds_toArray, List.set_cons_zero, List.set_cons_succ]
            refine wpAnyH_take (i := 1) (oi := { dst := some 59, op := Op.move (Operand.tmp 12), type := _, pos := _, after := _, guard := none }) (v := .int .i64 1) rfl (by kernel_rfl) (by kernel_rfl) (by kernel_rfl) (fun _ _ _ h => h) (Or.inl ⟨by rfl, fun w hSw => by (try dsimp only at hSw); go_simp⟩) (by assumption) ?_
            simp only [Act.put, List.setIfInBounds_toArray, List.set_cons_zero, List.set_cons_succ]
            refine wpAnyH_take (i := 2) (oi := { dst := some 60, op := Op.indexAddr 101 (Operand.tmp 6) (Operand.tmp 59), type := _, pos := _, after := _, guard := none }) (v := .pointer (some ⟨A, 1, none⟩)) rfl (by kernel_rfl) (by kernel_rfl) (by kernel_rfl) (fun _ _ _ h => h) (Or.inl ⟨by rfl, fun w hSw => by (try dsimp only at hSw); go_simp⟩) (by assumption) ?_
            simp only [Act.put, List.setIfInBounds_toArray, List.set_cons_zero, List.set_cons_succ]
            refine wpAnyH_take (i := 3) (oi := { dst := some 61, op := Op.load 3 (Operand.tmp 60), type := _, pos := _, after := _, guard := none }) (v := .int .i64 n1) rfl (by kernel_rfl) (by kernel_rfl) (by kernel_rfl) (fun _ _ _ h => h) (Or.inl ⟨by rfl, fun w hSw => by obtain ⟨c0, c1, c2⟩ := hSw.1.nd.cells; clear hSw; go_simp⟩) (by assumption) ?_
            simp only [Act.put, List.setIfInBounds_toArray, List.set_cons_zero, List.set_cons_succ]
            refine wpAnyH_take (i := 4) (oi := { dst := some 62, op := Op.move (Operand.tmp 11), type := _, pos := _, after := _, guard := none }) (v := .int .i64 n0) rfl (by kernel_rfl) (by kernel_rfl) (by kernel_rfl) (fun _ _ _ h => h) (Or.inl ⟨by rfl, fun w hSw => by (try dsimp only at hSw); go_simp⟩) (by assumption) ?_
            simp only [Act.put, List.setIfInBounds_toArray, List.set_cons_zero, List.set_cons_succ]
            refine wpAnyH_ready (rs := [5, 9]) (by kernel_rfl) (by simp) ?_
            refine (AllReadyH.cons rfl (fun K hK => ?_) (AllReadyH.cons rfl (fun K hK => ?_) AllReadyH.nil))
            · go_simp
              refine (HF1.out _ (HRL.out.later hHeld.1.bel)).mono ?_
              rintro e w10 ⟨rfl, hb10⟩
              go_wp2_with fail
              try (have hz := hz.later hb10)
              refine hK.out _ _ ⟨hHeld.1.later hb10, hHeld.2.later hb10⟩ (fun hHd1 => ?_)
              clear hHeld hb10
              clear hK K
              try simp only [Act.put, List.setIfInBounds_toArray, List.set_cons_zero, List.set_cons_succ]
              refine wpAnyH_take (i := 6) (oi := { dst := some 57, op := Op.move (Operand.tmp 63), type := _, pos := _, after := _, guard := none }) (v := .tuple #[.agg #[.int .i64 b1.1.1, .int .i64 b1.1.2, .int .i64 b1.2.1, .int .i64 b1.2.2], .bool o1]) rfl (by kernel_rfl) (by kernel_rfl) (by kernel_rfl) (fun _ _ _ h => h) (Or.inl ⟨by rfl, fun w hSw => by (try dsimp only at hSw); go_simp⟩) (by assumption) ?_
              simp only [Act.put, List.setIfInBounds_toArray, List.set_cons_zero, List.set_cons_succ]
              refine wpAnyH_take (i := 7) (oi := { dst := some 64, op := Op.extract (Operand.tmp 57) 0, type := _, pos := _, after := _, guard := none }) (v := .agg #[.int .i64 b1.1.1, .int .i64 b1.1.2, .int .i64 b1.2.1, .int .i64 b1.2.2]) rfl (by kernel_rfl) (by kernel_rfl) (by kernel_rfl) (fun _ _ _ h => h) (Or.inl ⟨by rfl, fun w hSw => by (try dsimp only at hSw); go_simp⟩) (by assumption) ?_
              simp only [Act.put, List.setIfInBounds_toArray, List.set_cons_zero, List.set_cons_succ]
              refine wpAnyH_take (i := 8) (oi := { dst := some 65, op := Op.extract (Operand.tmp 57) 1, type := _, pos := _, after := _, guard := none }) (v := .bool o1) rfl (by kernel_rfl) (by kernel_rfl) (by kernel_rfl) (fun _ _ _ h => h) (Or.inl ⟨by rfl, fun w hSw => by (try dsimp only at hSw); go_simp⟩) (by assumption) ?_
              simp only [Act.put, List.setIfInBounds_toArray, List.set_cons_zero, List.set_cons_succ]
              refine wpAnyH_ready (rs := [9]) (by kernel_rfl) (by simp) ?_
              refine AllReadyH.cons rfl (fun K hK => ?_) AllReadyH.nil
              go_simp
              have hgX := hHd1.1.bel.size
              refine hK.out _ _ ⟨hHd1.1.later (below_alloc _ _), hHd1.2.later (below_alloc _ _)⟩ (fun hHd2 => ?_)
              have hz := bx_of hHd2.1.bel
              clear hHd1
              clear hK K
              try simp only [Act.put, List.setIfInBounds_toArray, List.set_cons_zero, List.set_cons_succ]
              refine wpAnyH_ready (rs := [10]) (by kernel_rfl) (by simp) ?_
              refine AllReadyH.cons rfl (fun Kc hK => ?_) AllReadyH.nil
              refine if_wp rfl (wp_stRow0 58 _ _ rfl _ (bxa b1) rfl rfl 58 _ hz infoBx4 rfl (by simp [bxa, Value.oneCell']) rfl ?_)
              have hzZ := Rt.heap_setRow_same hz (bxa b1)
              refine hK.out _ _ ⟨hHd2.1.box hz hgX _, (Rt.row_other (block_ne hHd2.2 hz (by decide)) _).trans hHd2.2⟩ (fun hHd3 => ?_)
              clear hHd2
              clear hK Kc
              try simp only [Act.put, List.setIfInBounds_toArray, List.set_cons_zero, List.set_cons_succ]
              refine wpAnyH_take (i := 11) (oi := { dst := some 16, op := Op.assign (Operand.tmp 65), type := _, pos := _, after := _, guard := none }) (v := .bool o1) rfl (by kernel_rfl) (by kernel_rfl) (by kernel_rfl) (fun _ _ _ h => h) (Or.inl ⟨by rfl, fun w hSw => by (try dsimp only at hSw); go_simp⟩) (by assumption) ?_
              simp only [Act.put, List.setIfInBounds_toArray, List.set_cons_zero, List.set_cons_succ]
              refine wpAnyH_done (by kernel_rfl) ?_ _
              go_wp2_with fail
              go_meet
              case rel => exact ⟨_, rfl, rfl, hHd3.1, hzZ, hgX, hHd3.2⟩
            · go_simp
              have hgX := hHeld.1.bel.size
              refine hK.out _ _ ⟨hHeld.1.later (below_alloc _ _), hHeld.2.later (below_alloc _ _)⟩ (fun hHd1 => ?_)
              have hz := bx_of hHd1.1.bel
              clear hHeld
              clear hK K
              try simp only [Act.put, List.setIfInBounds_toArray, List.set_cons_zero, List.set_cons_succ]
              refine wpAnyH_ready (rs := [5]) (by kernel_rfl) (by simp) ?_
              refine AllReadyH.cons rfl (fun K hK => ?_) AllReadyH.nil
              go_simp
              refine (HF1.out _ (HRL.out.later hHd1.1.bel)).mono ?_
              rintro e w10 ⟨rfl, hb10⟩
              go_wp2_with fail
              try (have hz := hz.later hb10)
              refine hK.out _ _ ⟨hHd1.1.later hb10, hHd1.2.later hb10⟩ (fun hHd2 => ?_)
              clear hHd1 hb10
              clear hK K
              try simp only [Act.put, List.setIfInBounds_toArray, List.set_cons_zero, List.set_cons_succ]
              refine wpAnyH_take (i := 6) (oi := { dst := some 57, op := Op.move (Operand.tmp 63), type := _, pos := _, after := _, guard := none }) (v := .tuple #[.agg #[.int .i64 b1.1.1, .int .i64 b1.1.2, .int .i64 b1.2.1, .int .i64 b1.2.2], .bool o1]) rfl (by kernel_rfl) (by kernel_rfl) (by kernel_rfl) (fun _ _ _ h => h) (Or.inl ⟨by rfl, fun w hSw => by (try dsimp only at hSw); go_simp⟩) (by assumption) ?_
              simp only [Act.put, List.setIfInBounds_toArray, List.set_cons_zero, List.set_cons_succ]
              refine wpAnyH_take (i := 7) (oi := { dst := some 64, op := Op.extract (Operand.tmp 57) 0, type := _, pos := _, after := _, guard := none }) (v := .agg #[.int .i64 b1.1.1, .int .i64 b1.1.2, .int .i64 b1.2.1, .int .i64 b1.2.2]) rfl (by kernel_rfl) (by kernel_rfl) (by kernel_rfl) (fun _ _ _ h => h) (Or.inl ⟨by rfl, fun w hSw => by (try dsimp only at hSw); go_simp⟩) (by assumption) ?_
              simp only [Act.put, List.setIfInBounds_toArray, List.set_cons_zero, List.set_cons_succ]
              refine wpAnyH_take (i := 8) (oi := { dst := some 65, op := Op.extract (Operand.tmp 57) 1, type := _, pos := _, after := _, guard := none }) (v := .bool o1) rfl (by kernel_rfl) (by kernel_rfl) (by kernel_rfl) (fun _ _ _ h => h) (Or.inl ⟨by rfl, fun w hSw => by (try dsimp only at hSw); go_simp⟩) (by assumption) ?_
              simp only [Act.put, List.setIfInBounds_toArray, List.set_cons_zero, List.set_cons_succ]
              refine wpAnyH_ready (rs := [10]) (by kernel_rfl) (by simp) ?_
              refine AllReadyH.cons rfl (fun Kc hK => ?_) AllReadyH.nil
              refine if_wp rfl (wp_stRow0 58 _ _ rfl _ (bxa b1) rfl rfl 58 _ hz infoBx4 rfl (by simp [bxa, Value.oneCell']) rfl ?_)
              have hzZ := Rt.heap_setRow_same hz (bxa b1)
              refine hK.out _ _ ⟨hHd2.1.box hz hgX _, (Rt.row_other (block_ne hHd2.2 hz (by decide)) _).trans hHd2.2⟩ (fun hHd3 => ?_)
              clear hHd2
              clear hK Kc
              try simp only [Act.put, List.setIfInBounds_toArray, List.set_cons_zero, List.set_cons_succ]
              refine wpAnyH_take (i := 11) (oi := { dst := some 16, op := Op.assign (Operand.tmp 65), type := _, pos := _, after := _, guard := none }) (v := .bool o1) rfl (by kernel_rfl) (by kernel_rfl) (by kernel_rfl) (fun _ _ _ h => h) (Or.inl ⟨by rfl, fun w hSw => by (try dsimp only at hSw); go_simp⟩) (by assumption) ?_
              simp only [Act.put, List.setIfInBounds_toArray, List.set_cons_zero, List.set_cons_succ]
              refine wpAnyH_done (by kernel_rfl) ?_ _
              go_wp2_with fail
              go_meet
              case rel => exact ⟨_, rfl, rfl, hHd3.1, hzZ, hgX, hHd3.2⟩
          case rest =>
            obtain ⟨X, rfl, rfl, hEc, hXc, gXc, hFc⟩ := hcut
            clear hE9 hF9 HF1
            cases o1 with
            | false =>
              have HXI : Hid (x1 = (23, zK)) := HNON.out rfl
              have HER : ER = 23 := HR1.out _ Z0.out.1 (by rw [HXI.out]) (by decide)
              have HERH : Hid (ER = 23) := HER
              have hre := hEc.re
              clear HNON HOWN HER
              go_wp2_with (first | (refine ldMb hEc.mb rfl _ rfl rfl rfl ?_) | (refine stMb hre rfl rfl _ _ rfl rfl rfl ?_))
              refine bodyPost_ret (resRow (p := 4) (t := 5) rfl _ _ K (mba (pt0 ml x0.2)) rfl (hre.row (pt0 ml x0.2)).var) rfl ?_
              exact ⟨HNO.out 23 HERH.out (by decide) _, Rt.setRow_below hEc.gK hEc.bel _⟩
            | true =>
              obtain ⟨hfst, hxe⟩ := HOWN.out rfl
              have HP : Hid (x1 = if opn b1 x0.2 then (0, ldK b1) else (5, zK)) := hxe
              have HGB : Hid (gK b1.1 = true ∧ gK b1.2 = true) := fst_good HI.out hfst
              have HGW : Hid (gk x0.2 = true) := Z0.out.2
              clear hfst hxe HOWN HNON
              obtain ⟨⟨z0, z1⟩, z2, z3⟩ := b1
              obtain ⟨az, hz2, hz3⟩ : ∃ az : Ky, az.bas = z2 ∧ az.stp = z3 := ⟨⟨z2, z3⟩, rfl, rfl⟩
              subst hz2 hz3
              obtain ⟨q0, q1, q2, q3⟩ := hXc.cells
              obtain ⟨v0, v1⟩ := hEc.ky.cells
              dsimp only at q0 q1 q2 q3
              cases hop : opn ((z0, z1), (az.bas, az.stp)) x0.2 with
              | true =>
                have hO := Rt.rOpen_yes z0 z1 az.bas az.stp _ _ (Rt.gd_iff.1 HGB.out.1) (Rt.gd_iff.1 HGB.out.2) (Rt.gd_iff.1 HGW.out) hop
                have hxi : x1 = (0, az) := by have := HP.out; rw [hop] at this; exact this
                have HGZ : Hid (gk az = true) := HGB.out.2
                clear HP hop HGB HGW
                subst hxi
                go_wp2_with fail
                refine (hO _).mono ?_
                rintro e w11 ⟨rfl, hb11⟩
                have hEd := hEc.later hb11
                have hFd := hFc.later hb11
                clear hO hEc hXc hFc hb11 q0 q1 q2 q3 v0 v1
                go_upto_region 17 with (refine stKy hFd az rfl _ _ rfl rfl rfl ?_)
                have hE9 := hEd.key hFd hFY gF #[.int .i64 az.bas, .int .i64 az.stp]
                have hF9 : KyAt (w11.setRow F #[.int .i64 az.bas, .int .i64 az.stp]) F az := KyAt.row hFd az
                clear hEd hFd
                generalize w11.setRow F #[.int .i64 az.bas, .int .i64 az.stp] = w9 at *
                clear ax ae
                obtain ⟨ax, hax⟩ : ∃ ax : Ky, ax = az := ⟨_, rfl⟩
                subst hax
                go_upto_region 21 with (fail)
                obtain ⟨⟨a0, a1⟩, ⟨a2, a3⟩, a4, a5⟩ := hE9.mb.key
                have f5 := hE9.mb.fr 7
                have f6 := hE9.mb.fr 8
                obtain ⟨k0, k1⟩ := hF9.cells
                go_upto_region 22 with (fail)
                have hE11 := hE9.set1 ax
                have hF11 : KyAt ((w9.setCell ⟨B, 7, none⟩ (.int .i64 ax.bas)).setCell ⟨B, 8, none⟩ (.int .i64 ax.stp)) F ax := two_other hF9 hFB _ _ _ _
                clear hE9 hF9 a0 a1 a2 a3 a4 a5 f5 f6 k0 k1 hFB
                generalize (w9.setCell ⟨B, 7, none⟩ (.int .i64 ax.bas)).setCell ⟨B, 8, none⟩ (.int .i64 ax.stp) = w12 at *
                have hED := hE11.later (drew_below _)
                have hFD := hF11.later (drew_below _)
                clear hE11 hF11
                have HED : Hid _ := hED
                have HFY : Hid (F ≠ Y) := hFY
                have HAY : Hid (A ≠ Y) := block_ne hED.nd hED.ky (by decide)
                have hS0 : KyAt w12.drew F ax ∧ N3 w12.drew A n0 n1 n2 := ⟨hFD, hED.nd⟩
                clear hED hFD hFY
                refine wp_region_held_drew (S := fun W => KyAt W F ax ∧ N3 W A n0 n1 n2) (by kernel_rfl) hS0 (fun hHeld => ?_)
                clear hS0
                obtain ⟨y0, y1⟩ := HED.out.ky.cells
                have u0 := Rt.row_frozen HED.out.ky 0
                have u1 := Rt.row_frozen HED.out.ky 1
                generalize w12.drew = wd at *
                refine wpAnyH_take (i := 0) (oi := { dst := some 85, op := Op.move (Operand.tmp 12), type := _, pos := _, after := _, guard := none }) (v := .int .i64 1) rfl (by kernel_rfl) (by kernel_rfl) (by kernel_rfl) (fun _ _ _ h => h) (Or.inl ⟨by rfl, fun w hSw => by (try dsimp only at hSw); go_simp⟩) (by assumption) ?_
                simp only [Act.put, List.setIfInBounds_toArray, List.set_cons_zero, List.set_cons_succ]
                refine wpAnyH_take (i := 1) (oi := { dst := some 86, op := Op.indexAddr 101 (Operand.tmp 6) (Operand.tmp 85), type := _, pos := _, after := _, guard := none }) (v := .pointer (some ⟨A, 1, none⟩)) rfl (by kernel_rfl) (by kernel_rfl) (by kernel_rfl) (fun _ _ _ h => h) (Or.inl ⟨by rfl, fun w hSw => by (try dsimp only at hSw); go_simp⟩) (by assumption) ?_
                simp only [Act.put, List.setIfInBounds_toArray, List.set_cons_zero, List.set_cons_succ]
                refine wpAnyH_take (i := 2) (oi := { dst := some 87, op := Op.load 3 (Operand.tmp 86), type := _, pos := _, after := _, guard := none }) (v := .int .i64 n1) rfl (by kernel_rfl) (by kernel_rfl) (by kernel_rfl) (fun _ _ _ h => h) (Or.inl ⟨by rfl, fun w hSw => by obtain ⟨c0, c1, c2⟩ := hSw.2.cells; clear hSw y0 y1 u0 u1; go_simp⟩) (by assumption) ?_
                simp only [Act.put, List.setIfInBounds_toArray, List.set_cons_zero, List.set_cons_succ]
                refine wpAnyH_take (i := 3) (oi := { dst := some 88, op := Op.load 23 (Operand.tmp 13), type := _, pos := _, after := _, guard := none }) (v := .agg #[.int .i64 ax.bas, .int .i64 ax.stp]) rfl (by kernel_rfl) (by kernel_rfl) (by kernel_rfl) (fun _ _ _ h => h) (Or.inl ⟨by rfl, fun w hSw => by obtain ⟨c0, c1⟩ := hSw.1.cells; clear hSw y0 y1 u0 u1; go_simp⟩) (by assumption) ?_
                simp only [Act.put, List.setIfInBounds_toArray, List.set_cons_zero, List.set_cons_succ]
                refine wpAnyH_take (i := 4) (oi := { dst := some 11, op := Op.assign (Operand.tmp 87), type := _, pos := _, after := _, guard := none }) (v := .int .i64 n1) rfl (by kernel_rfl) (by kernel_rfl) (by kernel_rfl) (fun _ _ _ h => h) (Or.inl ⟨by rfl, fun w hSw => by (try dsimp only at hSw); go_simp⟩) (by assumption) ?_
                simp only [Act.put, List.setIfInBounds_toArray, List.set_cons_zero, List.set_cons_succ]
                refine wpAnyH_ready (rs := [5]) (by kernel_rfl) (by simp) ?_
                refine AllReadyH.cons rfl (fun K hK => ?_) AllReadyH.nil
                go_simp
                refine hK.out _ _ ⟨two_other hHeld.1 HFY.out _ _ _ _, two_other hHeld.2 HAY.out _ _ _ _⟩ (fun hHeld2 => ?_)
                clear hHeld
                clear hK K
                try simp only [Act.put, List.setIfInBounds_toArray, List.set_cons_zero, List.set_cons_succ]
                refine wpAnyH_done (by kernel_rfl) ?_ _
                clear y0 y1 u0 u1 hHeld2
                have hE13 := HED.out.setY ax
                clear HED HFY HAY
                generalize (wd.setCell ⟨Y, 0, none⟩ (.int .i64 ax.bas)).setCell ⟨Y, 1, none⟩ (.int .i64 ax.stp) = w13 at *
                go_wp2_with fail
                go_roundw
                case rel => exact ⟨2, by omega, rfl, rfl, hE13, fun _ => Z0.out, fun _ => ⟨by first | rfl | trivial, HGZ.out⟩, fun h => by omega⟩
                case measure => simp [intOf]
              | false =>
                have hO := Rt.rOpen_off z0 z1 az.bas az.stp _ _ (Rt.gd_iff.1 HGB.out.1) (Rt.gd_iff.1 HGB.out.2) (Rt.gd_iff.1 HGW.out) hop
                have HXI : Hid (x1 = (5, zK)) := by have := HP.out; rw [hop] at this; exact this
                have HER : ER = 5 := HR1.out _ Z0.out.1 (by rw [HXI.out]) (by decide)
                have HERH : Hid (ER = 5) := HER
                clear HP hop HGB HGW HER
                go_wp2_with fail
                refine (hO _).mono ?_
                rintro e w11 ⟨rfl, hb11⟩
                have hEd := hEc.later hb11
                have hFd := hFc.later hb11
                clear hO hEc hXc hFc hb11 q0 q1 q2 q3 v0 v1
                go_upto_region 17 with (refine stKy hFd zK rfl _ _ rfl rfl rfl ?_)
                have hE9 := hEd.key hFd hFY gF #[.int .i64 zK.bas, .int .i64 zK.stp]
                clear hEd hFd
                generalize w11.setRow F #[.int .i64 zK.bas, .int .i64 zK.stp] = w9 at *
                have hre := hE9.re
                go_wp2_with (first | (refine ldMb hE9.mb rfl _ rfl rfl rfl ?_) | (refine stMb hre rfl rfl _ _ rfl rfl rfl ?_))
                refine bodyPost_ret (resRow (p := 4) (t := 5) rfl _ _ K (mba (pt0 ml x0.2)) rfl (hre.row (pt0 ml x0.2)).var) rfl ?_
                exact ⟨HNO.out 5 HERH.out (by decide) _, Rt.setRow_below hE9.gK hE9.bel _⟩
      · have hE : ES w wr B D K A Y (pt1 (pt0 ml x0.2) x1.2) r aL aJ aI cL cJ cI n0 n1 n2 x1.2 := hE
        have hf : sel q n0 n1 n2 2 = n1 := rfl
        rw [hf]
        have Z0 : Hid (x0.1 = 0 ∧ gk x0.2 = true) := p1 (by omega)
        have Z1 : Hid (x1.1 = 0 ∧ gk x1.2 = true) := p2 (by omega)
        clear hf p1 p2 p3
        have a0 : wr.cell? ⟨B, 9, none⟩ = some (.int .i64 m.p2.bas) := by have h := hE.mb.key.2.2.1; have e : ((pt1 (pt0 ml x0.2) x1.2)).p2 = m.p2 := HQ2.out; rw [e] at h; exact h
        have a1 : wr.cell? ⟨B, 10, none⟩ = some (.int .i64 m.p2.stp) := by have h := hE.mb.key.2.2.2; have e : ((pt1 (pt0 ml x0.2) x1.2)).p2 = m.p2 := HQ2.out; rw [e] at h; exact h
        have HEN : Hid (x2 = foP r.2.2.2 g2 n2 n1 m.p2 x1.2) := E2.out
        obtain ⟨ax, ae, hA, HAX⟩ : ∃ (ax : Ky) (ae : Int), (∀ W, Calls Tryz.prog 57 #[.agg #[.int .i64 m.p2.bas, .int .i64 m.p2.stp], .int .i64 1] W fun e w' => e = .returned (.tuple #[.agg #[.int .i64 ax.bas, .int .i64 ax.stp], .int .i64 ae]) ∧ Below W.heap.size W w') ∧ Hid (g2 = false → (ae = 0 ∧ x2 = (0, ax) ∧ gk ax = true) ∨ (ae = 4 ∧ x2 = (4, zK))) := by
          cases hv : advB m.p2 with
          | true => exact ⟨adv m.p2, 0, adv_yes HP2.out hv, fun hg => .inl ⟨rfl, by rw [HEN.out, hg, fo_adv, hv]; rfl, adv_good hv⟩⟩
          | false => exact ⟨zK, 4, adv_no HP2.out hv, fun hg => .inr ⟨rfl, by rw [HEN.out, hg, fo_adv, hv]; rfl⟩⟩
        go_wp2_with fail
        refine (hA _).mono ?_
        rintro e w8 ⟨rfl, hb8⟩
        have hb9 := Wi.Below.join hb8 (below_alloc w8 (.cells #[.int .i64 ax.bas, .int .i64 ax.stp] 23))
        have hE9 := hE.later hb9
        have hF9 : KyAt (w8.alloc (.cells #[.int .i64 ax.bas, .int .i64 ax.stp] 23)) w8.heap.size ax := KyAt.new w8 ax
        have hFY : w8.heap.size ≠ Y := Nat.ne_of_gt (hE.later hb8).ky.lt
        have hFB : w8.heap.size ≠ B := Nat.ne_of_gt (hE.later hb8).mb.lt
        have gF : w.heap.size ≤ w8.heap.size := (hE.later hb8).bel.size
        clear hE hb8 hb9 hA a0 a1
        go_upto_region 12 with (fail)
        generalize w8.alloc (.cells #[.int .i64 ax.bas, .int .i64 ax.stp] 23) = w9 at *
        generalize w8.heap.size = F at *
        obtain ⟨m0, m1, m2⟩ := hE9.nd.cells
        go_wp2_with fail
        refine (HIN2.out _).mono ?_
        rintro e w9 ⟨rfl, rfl⟩
        clear m0 m1 m2
        cases g2 with
        | false =>
          rcases HAX.out rfl with ⟨h1, h2, h3⟩ | ⟨h1, h2⟩
          · have HGZ : Hid (gk ax = true) := h3
            subst h1
            subst h2
            clear HAX HEN h3
            go_upto_region 21 with (fail)
            obtain ⟨⟨a0, a1⟩, ⟨a2, a3⟩, a4, a5⟩ := hE9.mb.key
            have f5 := hE9.mb.fr 9
            have f6 := hE9.mb.fr 10
            obtain ⟨k0, k1⟩ := hF9.cells
            go_upto_region 22 with (fail)
            have hE11 := hE9.set2 ax
            have hF11 : KyAt ((w9.setCell ⟨B, 9, none⟩ (.int .i64 ax.bas)).setCell ⟨B, 10, none⟩ (.int .i64 ax.stp)) F ax := two_other hF9 hFB _ _ _ _
            clear hE9 hF9 a0 a1 a2 a3 a4 a5 f5 f6 k0 k1 hFB
            generalize (w9.setCell ⟨B, 9, none⟩ (.int .i64 ax.bas)).setCell ⟨B, 10, none⟩ (.int .i64 ax.stp) = w12 at *
            have hED := hE11.later (drew_below _)
            have hFD := hF11.later (drew_below _)
            clear hE11 hF11
            have HED : Hid _ := hED
            have HFY : Hid (F ≠ Y) := hFY
            have HAY : Hid (A ≠ Y) := block_ne hED.nd hED.ky (by decide)
            have hS0 : KyAt w12.drew F ax ∧ N3 w12.drew A n0 n1 n2 := ⟨hFD, hED.nd⟩
            clear hED hFD hFY
            refine wp_region_held_drew (S := fun W => KyAt W F ax ∧ N3 W A n0 n1 n2) (by kernel_rfl) hS0 (fun hHeld => ?_)
            clear hS0
            obtain ⟨y0, y1⟩ := HED.out.ky.cells
            have u0 := Rt.row_frozen HED.out.ky 0
            have u1 := Rt.row_frozen HED.out.ky 1
            generalize w12.drew = wd at *
            refine wpAnyH_take (i := 0) (oi := { dst := some 85, op := Op.move (Operand.tmp 12), type := _, pos := _, after := _, guard := none }) (v := .int .i64 2) rfl (by kernel_rfl) (by kernel_rfl) (by kernel_rfl) (fun _ _ _ h => h) (Or.inl ⟨by rfl, fun w hSw => by (try dsimp only at hSw); go_simp⟩) (by assumption) ?_
            simp only [Act.put, List.setIfInBounds_toArray, List.set_cons_zero, List.set_cons_succ]
            refine wpAnyH_take (i := 1) (oi := { dst := some 86, op := Op.indexAddr 101 (Operand.tmp 6) (Operand.tmp 85), type := _, pos := _, after := _, guard := none }) (v := .pointer (some ⟨A, 2, none⟩)) rfl (by kernel_rfl) (by kernel_rfl) (by kernel_rfl) (fun _ _ _ h => h) (Or.inl ⟨by rfl, fun w hSw => by (try dsimp only at hSw); go_simp⟩) (by assumption) ?_
            simp only [Act.put, List.setIfInBounds_toArray, List.set_cons_zero, List.set_cons_succ]
            refine wpAnyH_take (i := 2) (oi := { dst := some 87, op := Op.load 3 (Operand.tmp 86), type := _, pos := _, after := _, guard := none }) (v := .int .i64 n2) rfl (by kernel_rfl) (by kernel_rfl) (by kernel_rfl) (fun _ _ _ h => h) (Or.inl ⟨by rfl, fun w hSw => by obtain ⟨c0, c1, c2⟩ := hSw.2.cells; clear hSw y0 y1 u0 u1; go_simp⟩) (by assumption) ?_
            simp only [Act.put, List.setIfInBounds_toArray, List.set_cons_zero, List.set_cons_succ]
            refine wpAnyH_take (i := 3) (oi := { dst := some 88, op := Op.load 23 (Operand.tmp 13), type := _, pos := _, after := _, guard := none }) (v := .agg #[.int .i64 ax.bas, .int .i64 ax.stp]) rfl (by kernel_rfl) (by kernel_rfl) (by kernel_rfl) (fun _ _ _ h => h) (Or.inl ⟨by rfl, fun w hSw => by obtain ⟨c0, c1⟩ := hSw.1.cells; clear hSw y0 y1 u0 u1; go_simp⟩) (by assumption) ?_
            simp only [Act.put, List.setIfInBounds_toArray, List.set_cons_zero, List.set_cons_succ]
            refine wpAnyH_take (i := 4) (oi := { dst := some 11, op := Op.assign (Operand.tmp 87), type := _, pos := _, after := _, guard := none }) (v := .int .i64 n2) rfl (by kernel_rfl) (by kernel_rfl) (by kernel_rfl) (fun _ _ _ h => h) (Or.inl ⟨by rfl, fun w hSw => by (try dsimp only at hSw); go_simp⟩) (by assumption) ?_
            simp only [Act.put, List.setIfInBounds_toArray, List.set_cons_zero, List.set_cons_succ]
            refine wpAnyH_ready (rs := [5]) (by kernel_rfl) (by simp) ?_
            refine AllReadyH.cons rfl (fun K hK => ?_) AllReadyH.nil
            go_simp
            refine hK.out _ _ ⟨two_other hHeld.1 HFY.out _ _ _ _, two_other hHeld.2 HAY.out _ _ _ _⟩ (fun hHeld2 => ?_)
            clear hHeld
            clear hK K
            try simp only [Act.put, List.setIfInBounds_toArray, List.set_cons_zero, List.set_cons_succ]
            refine wpAnyH_done (by kernel_rfl) ?_ _
            clear y0 y1 u0 u1 hHeld2
            have hE13 := HED.out.setY ax
            clear HED HFY HAY
            generalize (wd.setCell ⟨Y, 0, none⟩ (.int .i64 ax.bas)).setCell ⟨Y, 1, none⟩ (.int .i64 ax.stp) = w13 at *
            go_wp2_with fail
            go_roundw
            case rel => exact ⟨3, by omega, rfl, rfl, hE13, fun _ => Z0.out, fun _ => Z1.out, fun _ => by first | rfl | trivial⟩
            case measure => simp [intOf]
          · have HXI : Hid (x2 = (4, zK)) := h2
            have HER : ER = 4 := HR2.out _ Z0.out.1 Z1.out.1 (by rw [HXI.out])
            have HERH : Hid (ER = 4) := HER
            subst h1
            have hre := hE9.re
            clear HAX HEN h2 HER
            go_wp2_with (first | (refine ldMb hE9.mb rfl _ rfl rfl rfl ?_) | (refine stMb hre rfl rfl _ _ rfl rfl rfl ?_))
            refine bodyPost_ret (resRow (p := 4) (t := 5) rfl _ _ K (mba (pt1 (pt0 ml x0.2) x1.2)) rfl (hre.row (pt1 (pt0 ml x0.2) x1.2)).var) rfl ?_
            exact ⟨HNO.out 4 HERH.out (by decide) _, Rt.setRow_below hE9.gK hE9.bel _⟩
        | true =>
          obtain ⟨b1, hb1⟩ : ∃ b, fsB r.2.2.2 n2 n1 = b := ⟨_, rfl⟩
          obtain ⟨o1, ho1⟩ : ∃ o, fsO r.2.2.2 n2 n1 = o := ⟨_, rfl⟩
          have hf1 := fun W (hW : RL W r aL aJ aI) => HFI.out n2 n1 W hW
          simp only [hb1, ho1] at hf1
          have HOWN : Hid (o1 = true → fstI r.2.2.2 n2 n1 = some b1 ∧ x2 = if opn b1 x1.2 then (0, ldK b1) else (5, zK)) := fun h => by
            rw [HEN.out, ← hb1]
            rw [← ho1] at h
            exact ⟨fs_yes h, fo_own h⟩
          have HNON : Hid (o1 = false → x2 = (23, zK)) := fun h => by
            rw [HEN.out]
            rw [← ho1] at h
            exact fo_none h
          clear hb1 ho1 HAX HEN
          unfold bxa at hf1
          have HF1 : Hid _ := hf1
          clear hf1
          go_upto_region 13 with (fail)
          go_cut [15, 16] (fun s12 s13 wx => ∃ X, s12 = .pointer (some ⟨X, 0, none⟩) ∧ s13 = .bool o1 ∧ ES w wx B D K A Y (pt1 (pt0 ml x0.2) x1.2) r aL aJ aI cL cJ cI n0 n1 n2 x1.2 ∧ BA wx X b1 ∧ w.heap.size ≤ X ∧ KyAt wx F ax)
          case first =>
            have hS0 : ES w w9.drew B D K A Y (pt1 (pt0 ml x0.2) x1.2) r aL aJ aI cL cJ cI n0 n1 n2 x1.2 ∧ KyAt w9.drew F ax := ⟨hE9.later (drew_below _), hF9.later (drew_below _)⟩
            clear hE9 hF9
            refine wp_region_held_drew (S := fun W => ES w W B D K A Y (pt1 (pt0 ml x0.2) x1.2) r aL aJ aI cL cJ cI n0 n1 n2 x1.2 ∧ KyAt W F ax) (by kernel_rfl) hS0 (fun hHeld => ?_)
            clear hS0
            generalize w9.drew = wd at *
            refine wpAnyH_take (i := 0) (oi := { dst := some 58, op := Op.load 31 (Operand.tmp 3), type := _, pos := _, after := _, guard := none }) (v := .agg #[.int .i64 r.1, .slice aL r.2.1.length cL, .slice aJ r.2.2.1.length cJ, .slice aI r.2.2.2.length cI]) rfl (by kernel_rfl) (by kernel_rfl) (by kernel_rfl) (fun _ _ _ h => h) (Or.inl ⟨by rfl, fun w hSw => rk_exec hSw.1.rk rfl rfl⟩) (by assumption) ?_
            simp only [Act.put, List.setIfInBounds_toArray, List.set_cons_zero, List.set_cons_succ]
            refine wpAnyH_take (i := 1) (oi := { dst := some 59, op := Op.move (Operand.tmp 12), type := _, pos := _, after := _, guard := none }) (v := .int .i64 2) rfl (by kernel_rfl) (by kernel_rfl) (by kernel_rfl) (fun _ _ _ h => h) (Or.inl ⟨by rfl, fun w hSw => by (try dsimp only at hSw); go_simp⟩) (by assumption) ?_
            simp only [Act.put, List.setIfInBounds_toArray, List.set_cons_zero, List.set_cons_succ]
            refine wpAnyH_take (i := 2) (oi := { dst := some 60, op := Op.indexAddr 101 (Operand.tmp 6) (Operand.tmp 59), type := _, pos := _, after := _, guard := none }) (v := .pointer (some ⟨A, 2, none⟩)) rfl (by kernel_rfl) (by kernel_rfl) (by kernel_rfl) (fun _ _ _ h => h) (Or.inl ⟨by rfl, fun w hSw => by (try dsimp only at hSw); go_simp⟩) (by assumption) ?_
            simp only [Act.put, List.setIfInBounds_toArray, List.set_cons_zero, List.set_cons_succ]
            refine wpAnyH_take (i := 3) (oi := { dst := some 61, op := Op.load 3 (Operand.tmp 60), type := _, pos := _, after := _, guard := none }) (v := .int .i64 n2) rfl (by kernel_rfl) (by kernel_rfl) (by kernel_rfl) (fun _ _ _ h => h) (Or.inl ⟨by rfl, fun w hSw => by obtain ⟨c0, c1, c2⟩ := hSw.1.nd.cells; clear hSw; go_simp⟩) (by assumption) ?_
            simp only [Act.put, List.setIfInBounds_toArray, List.set_cons_zero, List.set_cons_succ]
            refine wpAnyH_take (i := 4) (oi := { dst := some 62, op := Op.move (Operand.tmp 11), type := _, pos := _, after := _, guard := none }) (v := .int .i64 n1) rfl (by kernel_rfl) (by kernel_rfl) (by kernel_rfl) (fun _ _ _ h => h) (Or.inl ⟨by rfl, fun w hSw => by (try dsimp only at hSw); go_simp⟩) (by assumption) ?_
            simp only [Act.put, List.setIfInBounds_toArray, List.set_cons_zero, List.set_cons_succ]
            refine wpAnyH_ready (rs := [5, 9]) (by kernel_rfl) (by simp) ?_
            refine (AllReadyH.cons rfl (fun K hK => ?_) (AllReadyH.cons rfl (fun K hK => ?_) AllReadyH.nil))
            · go_simp
              refine (HF1.out _ (HRL.out.later hHeld.1.bel)).mono ?_
              rintro e w10 ⟨rfl, hb10⟩
              go_wp2_with fail
              try (have hz := hz.later hb10)
              refine hK.out _ _ ⟨hHeld.1.later hb10, hHeld.2.later hb10⟩ (fun hHd1 => ?_)
              clear hHeld hb10
              clear hK K
              try simp only [Act.put, List.setIfInBounds_toArray, List.set_cons_zero, List.set_cons_succ]
              refine wpAnyH_take (i := 6) (oi := { dst := some 57, op := Op.move (Operand.tmp 63), type := _, pos := _, after := _, guard := none }) (v := .tuple #[.agg #[.int .i64 b1.1.1, .int .i64 b1.1.2, .int .i64 b1.2.1, .int .i64 b1.2.2], .bool o1]) rfl (by kernel_rfl) (by kernel_rfl) (by kernel_rfl) (fun _ _ _ h => h) (Or.inl ⟨by rfl, fun w hSw => by (try dsimp only at hSw); go_simp⟩) (by assumption) ?_
              simp only [Act.put, List.setIfInBounds_toArray, List.set_cons_zero, List.set_cons_succ]
              refine wpAnyH_take (i := 7) (oi := { dst := some 64, op := Op.extract (Operand.tmp 57) 0, type := _, pos := _, after := _, guard := none }) (v := .agg #[.int .i64 b1.1.1, .int .i64 b1.1.2, .int .i64 b1.2.1, .int .i64 b1.2.2]) rfl (by kernel_rfl) (by kernel_rfl) (by kernel_rfl) (fun _ _ _ h => h) (Or.inl ⟨by rfl, fun w hSw => by (try dsimp only at hSw); go_simp⟩) (by assumption) ?_
              simp only [Act.put, List.setIfInBounds_toArray, List.set_cons_zero, List.set_cons_succ]
              refine wpAnyH_take (i := 8) (oi := { dst := some 65, op := Op.extract (Operand.tmp 57) 1, type := _, pos := _, after := _, guard := none }) (v := .bool o1) rfl (by kernel_rfl) (by kernel_rfl) (by kernel_rfl) (fun _ _ _ h => h) (Or.inl ⟨by rfl, fun w hSw => by (try dsimp only at hSw); go_simp⟩) (by assumption) ?_
              simp only [Act.put, List.setIfInBounds_toArray, List.set_cons_zero, List.set_cons_succ]
              refine wpAnyH_ready (rs := [9]) (by kernel_rfl) (by simp) ?_
              refine AllReadyH.cons rfl (fun K hK => ?_) AllReadyH.nil
              go_simp
              have hgX := hHd1.1.bel.size
              refine hK.out _ _ ⟨hHd1.1.later (below_alloc _ _), hHd1.2.later (below_alloc _ _)⟩ (fun hHd2 => ?_)
              have hz := bx_of hHd2.1.bel
              clear hHd1
              clear hK K
              try simp only [Act.put, List.setIfInBounds_toArray, List.set_cons_zero, List.set_cons_succ]
              refine wpAnyH_ready (rs := [10]) (by kernel_rfl) (by simp) ?_
              refine AllReadyH.cons rfl (fun Kc hK => ?_) AllReadyH.nil
              refine if_wp rfl (wp_stRow0 58 _ _ rfl _ (bxa b1) rfl rfl 58 _ hz infoBx4 rfl (by simp [bxa, Value.oneCell']) rfl ?_)
              have hzZ := Rt.heap_setRow_same hz (bxa b1)
              refine hK.out _ _ ⟨hHd2.1.box hz hgX _, (Rt.row_other (block_ne hHd2.2 hz (by decide)) _).trans hHd2.2⟩ (fun hHd3 => ?_)
              clear hHd2
              clear hK Kc
              try simp only [Act.put, List.setIfInBounds_toArray, List.set_cons_zero, List.set_cons_succ]
              refine wpAnyH_take (i := 11) (oi := { dst := some 16, op := Op.assign (Operand.tmp 65), type := _, pos := _, after := _, guard := none }) (v := .bool o1) rfl (by kernel_rfl) (by kernel_rfl) (by kernel_rfl) (fun _ _ _ h => h) (Or.inl ⟨by rfl, fun w hSw => by (try dsimp only at hSw); go_simp⟩) (by assumption) ?_
              simp only [Act.put, List.setIfInBounds_toArray, List.set_cons_zero, List.set_cons_succ]
              refine wpAnyH_done (by kernel_rfl) ?_ _
              go_wp2_with fail
              go_meet
              case rel => exact ⟨_, rfl, rfl, hHd3.1, hzZ, hgX, hHd3.2⟩
            · go_simp
              have hgX := hHeld.1.bel.size
              refine hK.out _ _ ⟨hHeld.1.later (below_alloc _ _), hHeld.2.later (below_alloc _ _)⟩ (fun hHd1 => ?_)
              have hz := bx_of hHd1.1.bel
              clear hHeld
              clear hK K
              try simp only [Act.put, List.setIfInBounds_toArray, List.set_cons_zero, List.set_cons_succ]
              refine wpAnyH_ready (rs := [5]) (by kernel_rfl) (by simp) ?_
              refine AllReadyH.cons rfl (fun K hK => ?_) AllReadyH.nil
              go_simp
              refine (HF1.out _ (HRL.out.later hHd1.1.bel)).mono ?_
              rintro e w10 ⟨rfl, hb10⟩
              go_wp2_with fail
              try (have hz := hz.later hb10)
              refine hK.out _ _ ⟨hHd1.1.later hb10, hHd1.2.later hb10⟩ (fun hHd2 => ?_)
              clear hHd1 hb10
              clear hK K
              try simp only [Act.put, List.setIfInBounds_toArray, List.set_cons_zero, List.set_cons_succ]
              refine wpAnyH_take (i := 6) (oi := { dst := some 57, op := Op.move (Operand.tmp 63), type := _, pos := _, after := _, guard := none }) (v := .tuple #[.agg #[.int .i64 b1.1.1, .int .i64 b1.1.2, .int .i64 b1.2.1, .int .i64 b1.2.2], .bool o1]) rfl (by kernel_rfl) (by kernel_rfl) (by kernel_rfl) (fun _ _ _ h => h) (Or.inl ⟨by rfl, fun w hSw => by (try dsimp only at hSw); go_simp⟩) (by assumption) ?_
              simp only [Act.put, List.setIfInBounds_toArray, List.set_cons_zero, List.set_cons_succ]
              refine wpAnyH_take (i := 7) (oi := { dst := some 64, op := Op.extract (Operand.tmp 57) 0, type := _, pos := _, after := _, guard := none }) (v := .agg #[.int .i64 b1.1.1, .int .i64 b1.1.2, .int .i64 b1.2.1, .int .i64 b1.2.2]) rfl (by kernel_rfl) (by kernel_rfl) (by kernel_rfl) (fun _ _ _ h => h) (Or.inl ⟨by rfl, fun w hSw => by (try dsimp only at hSw); go_simp⟩) (by assumption) ?_
              simp only [Act.put, List.setIfInBounds_toArray, List.set_cons_zero, List.set_cons_succ]
              refine wpAnyH_take (i := 8) (oi := { dst := some 65, op := Op.extract (Operand.tmp 57) 1, type := _, pos := _, after := _, guard := none }) (v := .bool o1) rfl (by kernel_rfl) (by kernel_rfl) (by kernel_rfl) (fun _ _ _ h => h) (Or.inl ⟨by rfl, fun w hSw => by (try dsimp only at hSw); go_simp⟩) (by assumption) ?_
              simp only [Act.put, List.setIfInBounds_toArray, List.set_cons_zero, List.set_cons_succ]
              refine wpAnyH_ready (rs := [10]) (by kernel_rfl) (by simp) ?_
              refine AllReadyH.cons rfl (fun Kc hK => ?_) AllReadyH.nil
              refine if_wp rfl (wp_stRow0 58 _ _ rfl _ (bxa b1) rfl rfl 58 _ hz infoBx4 rfl (by simp [bxa, Value.oneCell']) rfl ?_)
              have hzZ := Rt.heap_setRow_same hz (bxa b1)
              refine hK.out _ _ ⟨hHd2.1.box hz hgX _, (Rt.row_other (block_ne hHd2.2 hz (by decide)) _).trans hHd2.2⟩ (fun hHd3 => ?_)
              clear hHd2
              clear hK Kc
              try simp only [Act.put, List.setIfInBounds_toArray, List.set_cons_zero, List.set_cons_succ]
              refine wpAnyH_take (i := 11) (oi := { dst := some 16, op := Op.assign (Operand.tmp 65), type := _, pos := _, after := _, guard := none }) (v := .bool o1) rfl (by kernel_rfl) (by kernel_rfl) (by kernel_rfl) (fun _ _ _ h => h) (Or.inl ⟨by rfl, fun w hSw => by (try dsimp only at hSw); go_simp⟩) (by assumption) ?_
              simp only [Act.put, List.setIfInBounds_toArray, List.set_cons_zero, List.set_cons_succ]
              refine wpAnyH_done (by kernel_rfl) ?_ _
              go_wp2_with fail
              go_meet
              case rel => exact ⟨_, rfl, rfl, hHd3.1, hzZ, hgX, hHd3.2⟩
          case rest =>
            obtain ⟨X, rfl, rfl, hEc, hXc, gXc, hFc⟩ := hcut
            clear hE9 hF9 HF1
            cases o1 with
            | false =>
              have HXI : Hid (x2 = (23, zK)) := HNON.out rfl
              have HER : ER = 23 := HR2.out _ Z0.out.1 Z1.out.1 (by rw [HXI.out])
              have HERH : Hid (ER = 23) := HER
              have hre := hEc.re
              clear HNON HOWN HER
              go_wp2_with (first | (refine ldMb hEc.mb rfl _ rfl rfl rfl ?_) | (refine stMb hre rfl rfl _ _ rfl rfl rfl ?_))
              refine bodyPost_ret (resRow (p := 4) (t := 5) rfl _ _ K (mba (pt1 (pt0 ml x0.2) x1.2)) rfl (hre.row (pt1 (pt0 ml x0.2) x1.2)).var) rfl ?_
              exact ⟨HNO.out 23 HERH.out (by decide) _, Rt.setRow_below hEc.gK hEc.bel _⟩
            | true =>
              obtain ⟨hfst, hxe⟩ := HOWN.out rfl
              have HP : Hid (x2 = if opn b1 x1.2 then (0, ldK b1) else (5, zK)) := hxe
              have HGB : Hid (gK b1.1 = true ∧ gK b1.2 = true) := fst_good HI.out hfst
              have HGW : Hid (gk x1.2 = true) := Z1.out.2
              clear hfst hxe HOWN HNON
              obtain ⟨⟨z0, z1⟩, z2, z3⟩ := b1
              obtain ⟨az, hz2, hz3⟩ : ∃ az : Ky, az.bas = z2 ∧ az.stp = z3 := ⟨⟨z2, z3⟩, rfl, rfl⟩
              subst hz2 hz3
              obtain ⟨q0, q1, q2, q3⟩ := hXc.cells
              obtain ⟨v0, v1⟩ := hEc.ky.cells
              dsimp only at q0 q1 q2 q3
              cases hop : opn ((z0, z1), (az.bas, az.stp)) x1.2 with
              | true =>
                have hO := Rt.rOpen_yes z0 z1 az.bas az.stp _ _ (Rt.gd_iff.1 HGB.out.1) (Rt.gd_iff.1 HGB.out.2) (Rt.gd_iff.1 HGW.out) hop
                have hxi : x2 = (0, az) := by have := HP.out; rw [hop] at this; exact this
                have HGZ : Hid (gk az = true) := HGB.out.2
                clear HP hop HGB HGW
                subst hxi
                go_wp2_with fail
                refine (hO _).mono ?_
                rintro e w11 ⟨rfl, hb11⟩
                have hEd := hEc.later hb11
                have hFd := hFc.later hb11
                clear hO hEc hXc hFc hb11 q0 q1 q2 q3 v0 v1
                go_upto_region 17 with (refine stKy hFd az rfl _ _ rfl rfl rfl ?_)
                have hE9 := hEd.key hFd hFY gF #[.int .i64 az.bas, .int .i64 az.stp]
                have hF9 : KyAt (w11.setRow F #[.int .i64 az.bas, .int .i64 az.stp]) F az := KyAt.row hFd az
                clear hEd hFd
                generalize w11.setRow F #[.int .i64 az.bas, .int .i64 az.stp] = w9 at *
                clear ax ae
                obtain ⟨ax, hax⟩ : ∃ ax : Ky, ax = az := ⟨_, rfl⟩
                subst hax
                go_upto_region 21 with (fail)
                obtain ⟨⟨a0, a1⟩, ⟨a2, a3⟩, a4, a5⟩ := hE9.mb.key
                have f5 := hE9.mb.fr 9
                have f6 := hE9.mb.fr 10
                obtain ⟨k0, k1⟩ := hF9.cells
                go_upto_region 22 with (fail)
                have hE11 := hE9.set2 ax
                have hF11 : KyAt ((w9.setCell ⟨B, 9, none⟩ (.int .i64 ax.bas)).setCell ⟨B, 10, none⟩ (.int .i64 ax.stp)) F ax := two_other hF9 hFB _ _ _ _
                clear hE9 hF9 a0 a1 a2 a3 a4 a5 f5 f6 k0 k1 hFB
                generalize (w9.setCell ⟨B, 9, none⟩ (.int .i64 ax.bas)).setCell ⟨B, 10, none⟩ (.int .i64 ax.stp) = w12 at *
                have hED := hE11.later (drew_below _)
                have hFD := hF11.later (drew_below _)
                clear hE11 hF11
                have HED : Hid _ := hED
                have HFY : Hid (F ≠ Y) := hFY
                have HAY : Hid (A ≠ Y) := block_ne hED.nd hED.ky (by decide)
                have hS0 : KyAt w12.drew F ax ∧ N3 w12.drew A n0 n1 n2 := ⟨hFD, hED.nd⟩
                clear hED hFD hFY
                refine wp_region_held_drew (S := fun W => KyAt W F ax ∧ N3 W A n0 n1 n2) (by kernel_rfl) hS0 (fun hHeld => ?_)
                clear hS0
                obtain ⟨y0, y1⟩ := HED.out.ky.cells
                have u0 := Rt.row_frozen HED.out.ky 0
                have u1 := Rt.row_frozen HED.out.ky 1
                generalize w12.drew = wd at *
                refine wpAnyH_take (i := 0) (oi := { dst := some 85, op := Op.move (Operand.tmp 12), type := _, pos := _, after := _, guard := none }) (v := .int .i64 2) rfl (by kernel_rfl) (by kernel_rfl) (by kernel_rfl) (fun _ _ _ h => h) (Or.inl ⟨by rfl, fun w hSw => by (try dsimp only at hSw); go_simp⟩) (by assumption) ?_
                simp only [Act.put, List.setIfInBounds_toArray, List.set_cons_zero, List.set_cons_succ]
                refine wpAnyH_take (i := 1) (oi := { dst := some 86, op := Op.indexAddr 101 (Operand.tmp 6) (Operand.tmp 85), type := _, pos := _, after := _, guard := none }) (v := .pointer (some ⟨A, 2, none⟩)) rfl (by kernel_rfl) (by kernel_rfl) (by kernel_rfl) (fun _ _ _ h => h) (Or.inl ⟨by rfl, fun w hSw => by (try dsimp only at hSw); go_simp⟩) (by assumption) ?_
                simp only [Act.put, List.setIfInBounds_toArray, List.set_cons_zero, List.set_cons_succ]
                refine wpAnyH_take (i := 2) (oi := { dst := some 87, op := Op.load 3 (Operand.tmp 86), type := _, pos := _, after := _, guard := none }) (v := .int .i64 n2) rfl (by kernel_rfl) (by kernel_rfl) (by kernel_rfl) (fun _ _ _ h => h) (Or.inl ⟨by rfl, fun w hSw => by obtain ⟨c0, c1, c2⟩ := hSw.2.cells; clear hSw y0 y1 u0 u1; go_simp⟩) (by assumption) ?_
                simp only [Act.put, List.setIfInBounds_toArray, List.set_cons_zero, List.set_cons_succ]
                refine wpAnyH_take (i := 3) (oi := { dst := some 88, op := Op.load 23 (Operand.tmp 13), type := _, pos := _, after := _, guard := none }) (v := .agg #[.int .i64 ax.bas, .int .i64 ax.stp]) rfl (by kernel_rfl) (by kernel_rfl) (by kernel_rfl) (fun _ _ _ h => h) (Or.inl ⟨by rfl, fun w hSw => by obtain ⟨c0, c1⟩ := hSw.1.cells; clear hSw y0 y1 u0 u1; go_simp⟩) (by assumption) ?_
                simp only [Act.put, List.setIfInBounds_toArray, List.set_cons_zero, List.set_cons_succ]
                refine wpAnyH_take (i := 4) (oi := { dst := some 11, op := Op.assign (Operand.tmp 87), type := _, pos := _, after := _, guard := none }) (v := .int .i64 n2) rfl (by kernel_rfl) (by kernel_rfl) (by kernel_rfl) (fun _ _ _ h => h) (Or.inl ⟨by rfl, fun w hSw => by (try dsimp only at hSw); go_simp⟩) (by assumption) ?_
                simp only [Act.put, List.setIfInBounds_toArray, List.set_cons_zero, List.set_cons_succ]
                refine wpAnyH_ready (rs := [5]) (by kernel_rfl) (by simp) ?_
                refine AllReadyH.cons rfl (fun K hK => ?_) AllReadyH.nil
                go_simp
                refine hK.out _ _ ⟨two_other hHeld.1 HFY.out _ _ _ _, two_other hHeld.2 HAY.out _ _ _ _⟩ (fun hHeld2 => ?_)
                clear hHeld
                clear hK K
                try simp only [Act.put, List.setIfInBounds_toArray, List.set_cons_zero, List.set_cons_succ]
                refine wpAnyH_done (by kernel_rfl) ?_ _
                clear y0 y1 u0 u1 hHeld2
                have hE13 := HED.out.setY ax
                clear HED HFY HAY
                generalize (wd.setCell ⟨Y, 0, none⟩ (.int .i64 ax.bas)).setCell ⟨Y, 1, none⟩ (.int .i64 ax.stp) = w13 at *
                go_wp2_with fail
                go_roundw
                case rel => exact ⟨3, by omega, rfl, rfl, hE13, fun _ => Z0.out, fun _ => Z1.out, fun _ => by first | rfl | trivial⟩
                case measure => simp [intOf]
              | false =>
                have hO := Rt.rOpen_off z0 z1 az.bas az.stp _ _ (Rt.gd_iff.1 HGB.out.1) (Rt.gd_iff.1 HGB.out.2) (Rt.gd_iff.1 HGW.out) hop
                have HXI : Hid (x2 = (5, zK)) := by have := HP.out; rw [hop] at this; exact this
                have HER : ER = 5 := HR2.out _ Z0.out.1 Z1.out.1 (by rw [HXI.out])
                have HERH : Hid (ER = 5) := HER
                clear HP hop HGB HGW HER
                go_wp2_with fail
                refine (hO _).mono ?_
                rintro e w11 ⟨rfl, hb11⟩
                have hEd := hEc.later hb11
                have hFd := hFc.later hb11
                clear hO hEc hXc hFc hb11 q0 q1 q2 q3 v0 v1
                go_upto_region 17 with (refine stKy hFd zK rfl _ _ rfl rfl rfl ?_)
                have hE9 := hEd.key hFd hFY gF #[.int .i64 zK.bas, .int .i64 zK.stp]
                clear hEd hFd
                generalize w11.setRow F #[.int .i64 zK.bas, .int .i64 zK.stp] = w9 at *
                have hre := hE9.re
                go_wp2_with (first | (refine ldMb hE9.mb rfl _ rfl rfl rfl ?_) | (refine stMb hre rfl rfl _ _ rfl rfl rfl ?_))
                refine bodyPost_ret (resRow (p := 4) (t := 5) rfl _ _ K (mba (pt1 (pt0 ml x0.2) x1.2)) rfl (hre.row (pt1 (pt0 ml x0.2) x1.2)).var) rfl ?_
                exact ⟨HNO.out 5 HERH.out (by decide) _, Rt.setRow_below hE9.gK hE9.bel _⟩
      · have hE : ES w wr B D K A Y (pt2 (pt1 (pt0 ml x0.2) x1.2) x2.2) r aL aJ aI cL cJ cI n0 n1 n2 x2.2 := hE
        have Z : Hid (ER = 0) := HR2.out 0 (p1 (by omega)).1 (p2 (by omega)).1 (p3 (by omega))
        clear p1 p2 p3
        have f0 := hE.mb.fr 2
        have c1 := hE.mb.ep
        have c2 := hE.rk.cells.1
        go_upto_region 24 with (fail)
        have hM : MA (wr.setCell ⟨B, 2, none⟩ (.int .i64 r.1)) B ⟨ml.who, ml.slt, r.1, ml.lf, x0.2, x1.2, x2.2, ml.has, ml.out, ml.bh⟩ := Rt.row_setCell hE.mb 2 (.int .i64 r.1)
        rw [← HFF.out] at hM
        have hre : MA (wr.setCell ⟨B, 2, none⟩ (.int .i64 r.1)) K zMb := (Rt.other_setCell (Ne.symm hE.ne) _ _).trans hE.re
        have hbl : Below w.heap.size w (wr.setCell ⟨B, 2, none⟩ (.int .i64 r.1)) := hE.bel.setCell (p := ⟨B, 2, none⟩) hE.gB _
        have hgK := hE.gK
        clear hE f0 c1 c2
        generalize wr.setCell ⟨B, 2, none⟩ (.int .i64 r.1) = wz at *
        obtain ⟨nf, hnf⟩ : ∃ n, FoF m r.1 x0 x1 x2 = n := ⟨_, rfl⟩
        rw [hnf] at hM HYE
        clear hnf HFF
        go_wp2_with (first | (refine ldMb hM rfl _ rfl rfl rfl ?_) | (refine stMb (n := nf) hre rfl rfl _ _ rfl rfl rfl ?_))
        refine bodyPost_ret (resRow (p := 4) (t := 5) rfl _ _ K (mba nf) rfl (hre.row nf).var) rfl ?_
        exact ⟨HYE.out Z.out, Rt.setRow_below hgK hbl _⟩
end Go.Proofs.YtnaiocdldghdeaaGreat.Mb
