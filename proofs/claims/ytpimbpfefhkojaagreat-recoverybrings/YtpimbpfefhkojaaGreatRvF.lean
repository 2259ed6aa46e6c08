/- Contract: Take. MADE by wip/mk_rvf.py. -/
import Derived.Test.YtpimbpfefhkojaaGreatRvE
import Derived.Test.YtpimbpfefhkojaaGreatMbJ3
import Derived.Test.YtpimbpfefhkojaaGreatKeyJ
namespace Go.Proofs.YtpimbpfefhkojaaGreat.Rv
open Go.RowKit Go.Maps Mb
open Rt (Ky zK gd gv Gd gd_iff pcs KyAt)
open Wi (gR gE gW gS gI gB gK gP zP zR zQ zD ldM rd_guard ra_of th_of ra_later RdV itl stl bxl Msg gM MR mgv)
set_option linter.unusedVariables false
set_option linter.unusedSimpArgs false

def TkA (m : Mb) (p : Rp) : Ending := .returned (.tuple #[.agg (mba (tkM m p)), .int .i64 (tkE m p)])
theorem TkA.no {m : Mb} {p : Rp} {e : Int} (h : tkE m p = e) (he : e ≠ 0) : Ending.returned (.tuple #[.agg (mba m), .int .i64 e]) = TkA m p := by unfold TkA; rw [tkM_no (by rw [h]; exact he), h]
theorem TkA.yes {m : Mb} {p : Rp} (h : tkE m p = 0) : Ending.returned (.tuple #[.agg (mba (arr m p.2.1 (tkL m p) (ldK p.2.2.1) (ldK p.2.2.2.1) (ldK p.2.2.2.2))), .int .i64 0]) = TkA m p := by unfold TkA; rw [tkM_yes h, h]
structure SK (w W : World) (B R K : Nat) (m : Mb) (p : Rp) : Prop where
  mb : MA W B m
  rp : RA W R p
  re : MA W K zMb
  bel : Below w.heap.size w W
  gb : w.heap.size ≤ B
  gk : w.heap.size ≤ K
  ne : B ≠ K
  nr : R ≠ B
theorem SK.later {w W W' : World} {B R K : Nat} {m : Mb} {p : Rp} (h : SK w W B R K m p) (hb : Below W.heap.size W W') : SK w W' B R K m p := ⟨h.mb.later hb, h.rp.later hb, h.re.later hb, h.bel.trans (hb.mono h.bel.size), h.gb, h.gk, h.ne, h.nr⟩
theorem SK.new (w : World) (m : Mb) (p : Rp) : SK w (((w.alloc (.cells (mba m) 39)).alloc (.cells (rpa p) 60)).alloc (.cells (mba zMb) 39)) w.heap.size (w.heap.size + 1) (w.heap.size + 2) m p := by
  have h2 := RA.new (w.alloc (.cells (mba m) 39)) p
  have h3 := MA.new ((w.alloc (.cells (mba m) 39)).alloc (.cells (rpa p) 60)) zMb
  simp only [World.size_alloc] at h2 h3
  exact ⟨((MA.new w m).later (below_alloc _ _)).later (below_alloc _ _), h2.later (below_alloc _ _), h3, Wi.Below.plus (Wi.Below.plus (below_alloc _ _) _) _, by omega, by omega, by omega, by omega⟩
structure ST (w W : World) (B L P K R : Nat) (l a b c : Ky) (p : Rp) : Prop where
  sr : Mb.SR w W B L P K l a b c
  rp : RA W R p
  nr : R ≠ B
theorem ST.set {w W : World} {B L P K R : Nat} {l a b c : Ky} {p : Rp} (h : ST w W B L P K R l a b c p) (k : Nat) (v : Value) : ST w (W.setCell ⟨B, k, none⟩ v) B L P K R l a b c p := ⟨h.sr.set k v, (Rt.other_setCell h.nr _ _).trans h.rp, h.nr⟩
theorem ST.later {w W W' : World} {B L P K R : Nat} {l a b c : Ky} {p : Rp} (h : ST w W B L P K R l a b c p) (hb : Below W.heap.size W W') : ST w W' B L P K R l a b c p :=
  ⟨⟨h.sr.ky.later hb, row_later h.sr.pa hb, h.sr.re.later hb, h.sr.bel.trans (hb.mono h.sr.bel.size), h.sr.gb, h.sr.ne, h.sr.nl, h.sr.np⟩, h.rp.later hb, h.nr⟩
theorem stPan {ops : Array Oper} {rest : List Oper} {o : Oper} {ac : Act} {w : World} {Q : Exit → Act → World → Prop} {c : Array Value} (hz : (pal zK zK zK).toArray = c) (d e f : Ky) (hgd : o.guard = none) (x y : Operand) (ho : o.op = .store 37 x y) (hx : ac.eval x = .pointer (some ⟨w.heap.size, 0, none⟩)) (hy : ac.eval y = .agg (pal d e f).toArray)
    (k : wpList Tryz.prog ops Q rest (ac.put o.dst undef) (w.alloc (.cells (pal d e f).toArray 37))) : wpList Tryz.prog ops Q (o :: rest) ac (w.alloc (.cells c 37)) := by
  subst hz
  refine stPa (w := w.alloc (.cells (pal zK zK zK).toArray 37)) (B := w.heap.size) (a := zK) (b := zK) (c := zK) (heap_alloc_last w _) d e f hgd x y ho hx hy ?_
  rw [World.setRow_alloc_new]
  exact k
theorem ma_bhz {w : World} {B : Nat} {m : Mb} (h : MA w B m) : MA (w.setCell ⟨B, 13, none⟩ (.int .i64 0)) B (bh0 m) := Rt.row_setCell h 13 (.int .i64 0)
theorem oa_yes {p : Rp} {k : Ky} (h : opn3 p k = true) : OaA p.2.2.1 p.2.2.2.1 p.2.2.2.2 k = .returned (.tuple #[.agg (pal (ldK p.2.2.1) (ldK p.2.2.2.1) (ldK p.2.2.2.2)).toArray, .int .i64 0]) := if_pos (c := (opn p.2.2.1 k && (opn p.2.2.2.1 k && opn p.2.2.2.2 k)) = true) h
theorem oa_no {p : Rp} {k : Ky} (h : opn3 p k = false) : OaA p.2.2.1 p.2.2.2.1 p.2.2.2.2 k = .returned (.tuple #[.agg (pal zK zK zK).toArray, .int .i64 5]) := by unfold OaA; rw [if_neg (by rw [show (opn p.2.2.1 k && (opn p.2.2.2.1 k && opn p.2.2.2.2 k)) = false from h]; decide)]
set_option maxRecDepth 100000 in
set_option maxHeartbeats 4000000 in
theorem take_any (m : Mb) (p : Rp) (w : World) : Calls Tryz.prog 10 #[.agg (mba m), .agg (rpa p)] w fun r w' => r = TkA m p ∧ Below w.heap.size w w' := by
  have h1 := mayTake_any m p
  have hS := SK.new w m p
  obtain ⟨cm, hcm⟩ : ∃ c, mba m = c := ⟨_, rfl⟩
  have HM : Hid (mba m = cm) := hcm
  rw [hcm] at hS
  simp only [hcm] at h1
  rw [hcm]
  clear hcm
  obtain ⟨cp, hcp⟩ : ∃ c, rpa p = c := ⟨_, rfl⟩
  have HP : Hid (rpa p = cp) := hcp
  rw [hcp] at hS
  simp only [hcp] at h1
  rw [hcp]
  clear hcp
  go_enter Tryz.func10, Tryz.ntmps10
  go_upto_region 1 with (fail)
  rw [zMb_eq]
  generalize ((w.alloc (.cells cm 39)).alloc (.cells cp 60)).alloc (.cells (mba zMb) 39) = w1 at *
  obtain ⟨K, hK⟩ : ∃ K, w.heap.size + 2 = K := ⟨_, rfl⟩
  obtain ⟨R, hR⟩ : ∃ K, w.heap.size + 1 = K := ⟨_, rfl⟩
  obtain ⟨B, hB⟩ : ∃ K, w.heap.size = K := ⟨_, rfl⟩
  have hS1 : SK w w1 B R K m p := by rw [← hB, ← hR, ← hK]; exact hS
  rw [hK, hR, hB]
  clear hR hB hK hS
  go_wp2_with (first | (refine ldMb hS1.mb HM.out _ rfl rfl rfl ?_) | (refine ldRp hS1.rp HP.out _ rfl rfl rfl ?_))
  refine (h1 _).mono ?_
  rintro r w2 ⟨rfl, hb2⟩
  have hS2 := hS1.later hb2
  clear h1 hb2 hS1 HP
  by_cases hy : myE m p = 0
  · rw [hy]
    have hok := my_ok hy
    have hge := hok.ge
    have hpe := hok.eps
    have hme := hok.sat.ep
    have hlf := hok.lf
    obtain ⟨hgs, hgE, g0, g1, g2⟩ := gP_iff.1 hok.gp
    have hw1 : IntKind.i64.wrap (p.2.1 - m.ep) = p.2.1 - m.ep := Rs.i64_fit _ (by omega) (by omega)
    have c2 := hS2.mb.ep
    obtain ⟨c3, c4⟩ := hS2.mb.leaf
    have r2 := hS2.rp.ep
    by_cases hst : m.lf.stp + (p.2.1 - m.ep) ≤ 255
    · have hah := Rt.ahead_yes m.lf.bas m.lf.stp (p.2.1 - m.ep) hlf (by omega) (by omega)
      have hgl := hok.leaf hst
      have HA3 : Hid (opn3 p (tkL m p) = false → Ending.returned (.tuple #[.agg (mba m), .int .i64 5]) = TkA m p) := fun h => TkA.no (tk_3 hy hst h) (by decide)
      have HA4 : Hid (opn3 p (tkL m p) = true → Ending.returned (.tuple #[.agg (mba (arr m p.2.1 (tkL m p) (ldK p.2.2.1) (ldK p.2.2.2.1) (ldK p.2.2.2.2))), .int .i64 0]) = TkA m p) := fun h => TkA.yes (tk_4 hy hst h)
      have hoa := openAll_any p.2.2.1 p.2.2.2.1 p.2.2.2.2 (tkL m p) g0 g1 g2 hgl
      obtain ⟨l, hl⟩ : ∃ l, tkL m p = l := ⟨_, rfl⟩
      have hah : ∀ W : World, Calls Tryz.prog 26 #[.agg #[.int .i64 m.lf.bas, .int .i64 m.lf.stp], .int .i64 (p.2.1 - m.ep)] W fun e w' => e = .returned (.tuple #[.agg #[.int .i64 l.bas, .int .i64 l.stp], .int .i64 0]) ∧ Below W.heap.size W w' := fun W => by rw [← hl]; exact hah W
      rw [hl] at HA3 HA4
      simp only [hl] at hoa
      clear hl hok hge hpe hme hlf hgs hgE g0 g1 g2 hy hst hgl
      obtain ⟨df, hdf⟩ : ∃ d, p.2.1 - m.ep = d := ⟨_, rfl⟩
      rw [hdf] at hw1
      simp only [hdf] at hah
      have hw1 : IntKind.i64.wrap (p.2.1 - m.ep) = df := by rw [hdf]; exact hw1
      have HDF : Hid (p.2.1 - m.ep = df) := hdf
      clear hdf
      go_wp2_with fail
      refine (hah _).mono ?_
      rintro r w3 ⟨rfl, hb3⟩
      have hS4 := (hS2.later hb3).later (below_alloc w3 (.cells #[.int .i64 l.bas, .int .i64 l.stp] 23))
      have hky := KyAt.new w3 l
      clear hb3 hS2 c2 c3 c4 r2 hw1 hah HDF
      go_upto_region 5 with (fail)
      generalize w3.alloc (.cells #[.int .i64 l.bas, .int .i64 l.stp] 23) = w4 at *
      generalize w3.heap.size = L at *
      have hb3 := hS4.rp.b3
      obtain ⟨k0, k1⟩ := hky.cells
      cases ho : opn3 p l with
      | false =>
        have HA : Hid _ := HA3.out ho
        rw [oa_no ho] at hoa
        clear HA3 HA4 ho
        go_wp2_with (refine ldM hb3 Tryz.underlying58 rfl szB3 _ rfl rfl rfl ?_)
        refine (hoa _).mono ?_
        rintro r w5 ⟨rfl, hb5⟩
        have hS5 := (hS4.later hb5).later (below_alloc w5 (.cells (pal zK zK zK).toArray 37))
        clear hoa hb5 hS4 hky hb3 k0 k1
        go_upto_region 8 with (refine stPan (w := w5) rfl zK zK zK rfl _ _ rfl rfl rfl ?_)
        generalize w5.alloc (.cells (pal zK zK zK).toArray 37) = w6 at *
        generalize w5.heap.size = P at *
        go_wp2_with (first | (refine ldMb hS5.mb HM.out _ rfl rfl rfl ?_) | (refine stMb hS5.re HM.out rfl _ _ rfl rfl rfl ?_))
        refine bodyPost_ret (resRow (p := 4) (t := 5) rfl _ _ K (mba m) rfl (hS5.re.row m).var) rfl ?_
        exact ⟨HA.out, Rt.setRow_below hS5.gk hS5.bel _⟩
      | true =>
        have HA' := HA4.out ho
        rw [oa_yes ho] at hoa
        clear HA3 HA4 ho
        obtain ⟨a, ha⟩ : ∃ k, ldK p.2.2.1 = k := ⟨_, rfl⟩
        obtain ⟨b, hb⟩ : ∃ k, ldK p.2.2.2.1 = k := ⟨_, rfl⟩
        obtain ⟨c, hc⟩ : ∃ k, ldK p.2.2.2.2 = k := ⟨_, rfl⟩
        obtain ⟨pe, hpe⟩ : ∃ k, p.2.1 = k := ⟨_, rfl⟩
        rw [ha, hb, hc, hpe] at HA'
        simp only [ha, hb, hc] at hoa
        have HPE : Hid (p.2.1 = pe) := hpe
        have HA : Hid _ := HA'
        clear ha hb hc hpe HA'
        go_wp2_with (refine ldM hb3 Tryz.underlying58 rfl szB3 _ rfl rfl rfl ?_)
        refine (hoa _).mono ?_
        rintro r w5 ⟨rfl, hb5⟩
        have hS6 := (hS4.later hb5).later (below_alloc w5 (.cells (pal a b c).toArray 37))
        have hky6 := (hky.later hb5).later (below_alloc w5 (.cells (pal a b c).toArray 37))
        have hpa : PAt (w5.alloc (.cells (pal a b c).toArray 37)) w5.heap.size a b c := heap_alloc_last w5 _
        clear hoa hb5 hS4 hky hb3 k0 k1
        go_upto_region 8 with (refine stPan (w := w5) rfl a b c rfl _ _ rfl rfl rfl ?_)
        generalize w5.alloc (.cells (pal a b c).toArray 37) = w6 at *
        generalize w5.heap.size = P at *
        have hMD : MA w6.drew B m := hS6.mb.later (drew_below _)
        have hT0 : ST w w6.drew B L P K R l a b c p := (⟨⟨hky6, hpa, hS6.re, hS6.bel, hS6.gb, hS6.ne, block_ne hS6.mb hky6 (by decide), block_ne hS6.mb hpa (by decide)⟩, hS6.rp, hS6.nr⟩ : ST w w6 B L P K R l a b c p).later (drew_below _)
        have HGK : Hid (w.heap.size ≤ K) := hS6.gk
        have HMD : Hid (MA w6.drew B m) := hMD
        have z2 := hMD.ep
        obtain ⟨z3, z4⟩ := hMD.leaf
        obtain ⟨⟨z5, z6⟩, ⟨z7, z8⟩, z9, z10⟩ := hMD.key
        have z11 := hMD.has
        have y2 := hMD.fr 2
        have y3 := hMD.fr 3
        have y4 := hMD.fr 4
        have y5 := hMD.fr 5
        have y6 := hMD.fr 6
        have y7 := hMD.fr 7
        have y8 := hMD.fr 8
        have y9 := hMD.fr 9
        have y10 := hMD.fr 10
        have y11 := hMD.fr 11
        clear hS6 hMD hky6 hpa
        go_upto_region 10 with (fail)
        refine wp_region_held_drew (S := fun W => ST w W B L P K R l a b c p) (by kernel_rfl) hT0 (fun hHeld => ?_)
        clear hT0
        generalize w6.drew = wd at *
        refine wpAnyH_take (i := 0) (oi := { dst := some 43, op := Op.fieldAddr 60 (Operand.tmp 3) 2, type := _, pos := _, after := _, guard := none }) (v := .pointer (some ⟨R, 2, none⟩)) rfl (by kernel_rfl) (by kernel_rfl) (by kernel_rfl) (fun _ _ _ h => h) (Or.inl ⟨by rfl, fun w hSw => by (try dsimp only at hSw); go_simp⟩) (by assumption) ?_
        simp only [Act.put, List.setIfInBounds_toArray, List.set_cons_zero, List.set_cons_succ]
        refine wpAnyH_take (i := 1) (oi := { dst := some 44, op := Op.load 3 (Operand.tmp 43), type := _, pos := _, after := _, guard := none }) (v := .int .i64 pe) rfl (by kernel_rfl) (by kernel_rfl) (by kernel_rfl) (fun _ _ _ h => h) (Or.inl ⟨by rfl, fun w hSw => by have h := hSw.rp.ep; rw [HPE.out] at h; clear hSw z2 z3 z4 z5 z6 z7 z8 z9 z10 z11 y2 y3 y4 y5 y6 y7 y8 y9 y10 y11; go_simp⟩) (by assumption) ?_
        simp only [Act.put, List.setIfInBounds_toArray, List.set_cons_zero, List.set_cons_succ]
        refine wpAnyH_take (i := 2) (oi := { dst := some 45, op := Op.load 23 (Operand.tmp 7), type := _, pos := _, after := _, guard := none }) (v := .agg #[.int .i64 l.bas, .int .i64 l.stp]) rfl (by kernel_rfl) (by kernel_rfl) (by kernel_rfl) (fun _ _ _ h => h) (Or.inl ⟨by rfl, fun w hSw => by obtain ⟨c0, c1⟩ := hSw.sr.ky.cells; clear hSw z2 z3 z4 z5 z6 z7 z8 z9 z10 z11 y2 y3 y4 y5 y6 y7 y8 y9 y10 y11; go_simp⟩) (by assumption) ?_
        simp only [Act.put, List.setIfInBounds_toArray, List.set_cons_zero, List.set_cons_succ]
        refine wpAnyH_take (i := 3) (oi := { dst := some 46, op := Op.load 37 (Operand.tmp 9), type := _, pos := _, after := _, guard := none }) (v := .agg #[.int .i64 a.bas, .int .i64 a.stp, .int .i64 b.bas, .int .i64 b.stp, .int .i64 c.bas, .int .i64 c.stp]) rfl (by kernel_rfl) (by kernel_rfl) (by kernel_rfl) (fun _ _ _ h => h) (Or.inl ⟨by rfl, fun w hSw => Wi.ld_ex hSw.sr.pa.all Tryz.underlying37 rfl szPath rfl rfl⟩) (by assumption) ?_
        simp only [Act.put, List.setIfInBounds_toArray, List.set_cons_zero, List.set_cons_succ]
        refine wpAnyH_take (i := 4) (oi := { dst := some 47, op := Op.fieldAddr 39 (Operand.tmp 2) 2, type := _, pos := _, after := _, guard := none }) (v := .pointer (some ⟨B, 2, none⟩)) rfl (by kernel_rfl) (by kernel_rfl) (by kernel_rfl) (fun _ _ _ h => h) (Or.inl ⟨by rfl, fun w hSw => by (try dsimp only at hSw); go_simp⟩) (by assumption) ?_
        simp only [Act.put, List.setIfInBounds_toArray, List.set_cons_zero, List.set_cons_succ]
        refine wpAnyH_ready (rs := [5]) (by kernel_rfl) (by simp) ?_
        refine AllReadyH.cons rfl (fun K hK => ?_) AllReadyH.nil
        go_simp
        refine hK.out _ _ (hHeld.set 2 _) (fun hHeld2 => ?_)
        clear hHeld
        clear hK K
        try simp only [Act.put, List.setIfInBounds_toArray, List.set_cons_zero, List.set_cons_succ]
        refine wpAnyH_take (i := 6) (oi := { dst := some 48, op := Op.fieldAddr 39 (Operand.tmp 2) 3, type := _, pos := _, after := _, guard := none }) (v := .pointer (some ⟨B, 3, none⟩)) rfl (by kernel_rfl) (by kernel_rfl) (by kernel_rfl) (fun _ _ _ h => h) (Or.inl ⟨by rfl, fun w hSw => by (try dsimp only at hSw); go_simp⟩) (by assumption) ?_
        simp only [Act.put, List.setIfInBounds_toArray, List.set_cons_zero, List.set_cons_succ]
        refine wpAnyH_ready (rs := [7]) (by kernel_rfl) (by simp) ?_
        refine AllReadyH.cons rfl (fun K hK => ?_) AllReadyH.nil
        go_simp
        refine hK.out _ _ ((hHeld2.set 3 _).set 4 _) (fun hHeld3 => ?_)
        clear hHeld2
        clear hK K
        try simp only [Act.put, List.setIfInBounds_toArray, List.set_cons_zero, List.set_cons_succ]
        refine wpAnyH_take (i := 8) (oi := { dst := some 49, op := Op.fieldAddr 39 (Operand.tmp 2) 4, type := _, pos := _, after := _, guard := none }) (v := .pointer (some ⟨B, 5, none⟩)) rfl (by kernel_rfl) (by kernel_rfl) (by kernel_rfl) (fun _ _ _ h => h) (Or.inl ⟨by rfl, fun w hSw => by (try dsimp only at hSw); go_simp⟩) (by assumption) ?_
        simp only [Act.put, List.setIfInBounds_toArray, List.set_cons_zero, List.set_cons_succ]
        refine wpAnyH_ready (rs := [9]) (by kernel_rfl) (by simp) ?_
        refine AllReadyH.cons rfl (fun K hK => ?_) AllReadyH.nil
        go_simp
        refine hK.out _ _ ((((((hHeld3.set 5 _).set 6 _).set 7 _).set 8 _).set 9 _).set 10 _) (fun hHeld4 => ?_)
        clear hHeld3
        clear hK K
        try simp only [Act.put, List.setIfInBounds_toArray, List.set_cons_zero, List.set_cons_succ]
        refine wpAnyH_take (i := 10) (oi := { dst := some 50, op := Op.fieldAddr 39 (Operand.tmp 2) 5, type := _, pos := _, after := _, guard := none }) (v := .pointer (some ⟨B, 11, none⟩)) rfl (by kernel_rfl) (by kernel_rfl) (by kernel_rfl) (fun _ _ _ h => h) (Or.inl ⟨by rfl, fun w hSw => by (try dsimp only at hSw); go_simp⟩) (by assumption) ?_
        simp only [Act.put, List.setIfInBounds_toArray, List.set_cons_zero, List.set_cons_succ]
        refine wpAnyH_ready (rs := [11]) (by kernel_rfl) (by simp) ?_
        refine AllReadyH.cons rfl (fun K hK => ?_) AllReadyH.nil
        go_simp
        refine hK.out _ _ (hHeld4.set 11 _) (fun hHeld5 => ?_)
        clear hHeld4
        clear hK K
        try simp only [Act.put, List.setIfInBounds_toArray, List.set_cons_zero, List.set_cons_succ]
        refine wpAnyH_done (by kernel_rfl) ?_ _
        clear z2 z3 z4 z5 z6 z7 z8 z9 z10 z11 y2 y3 y4 y5 y6 y7 y8 y9 y10 y11
        have hN := Rt.row_setCell (Rt.row_setCell (Rt.row_setCell (Rt.row_setCell (Rt.row_setCell (Rt.row_setCell (Rt.row_setCell (Rt.row_setCell (Rt.row_setCell (Rt.row_setCell HMD.out 2 (.int .i64 pe)) 3 (.int .i64 l.bas)) 4 (.int .i64 l.stp)) 5 (.int .i64 a.bas)) 6 (.int .i64 a.stp)) 7 (.int .i64 b.bas)) 8 (.int .i64 b.stp)) 9 (.int .i64 c.bas)) 10 (.int .i64 c.stp)) 11 (.bool true)
        rw [arr_row] at hN
        obtain ⟨w7, hw7⟩ : ∃ W, (((((((((wd.setCell ⟨B, 2, none⟩ (.int .i64 pe)).setCell ⟨B, 3, none⟩ (.int .i64 l.bas)).setCell ⟨B, 4, none⟩ (.int .i64 l.stp)).setCell ⟨B, 5, none⟩ (.int .i64 a.bas)).setCell ⟨B, 6, none⟩ (.int .i64 a.stp)).setCell ⟨B, 7, none⟩ (.int .i64 b.bas)).setCell ⟨B, 8, none⟩ (.int .i64 b.stp)).setCell ⟨B, 9, none⟩ (.int .i64 c.bas)).setCell ⟨B, 10, none⟩ (.int .i64 c.stp)).setCell ⟨B, 11, none⟩ (.bool true) = W := ⟨_, rfl⟩
        rw [hw7] at hN hHeld5 ⊢
        clear hw7 HMD
        have HF : Hid (arr m pe l a b c = calm ⟨m.who, m.slt, pe, l, a, b, c, true, m.out, m.bh⟩) := rfl
        obtain ⟨n, hn⟩ : ∃ n : Mb, (⟨m.who, m.slt, pe, l, a, b, c, true, m.out, m.bh⟩ : Mb) = n := ⟨_, rfl⟩
        have HNB : Hid (n.bh = m.bh ∧ n.ep = pe) := by unfold Hid; rw [← hn]; exact ⟨rfl, rfl⟩
        rw [hn] at hN HF
        clear hn HM
        have hN2 : MA w7 B n := hN
        have cb := hN2.bh
        have ce := hN2.ep
        rw [HNB.out.1] at cb
        rw [HNB.out.2] at ce
        have hre := hHeld5.sr.re
        have HB7 : Hid (Below w.heap.size w w7) := hHeld5.sr.bel
        have HGB : Hid (w.heap.size ≤ B) := hHeld5.sr.gb
        have HNE : Hid (B ≠ K) := hHeld5.sr.ne
        clear hN hHeld5
        generalize m.bh = mb at *
        by_cases hle : mb ≤ pe
        · have HF2 : Hid (arr m pe l a b c = bh0 n) := by unfold Hid; rw [HF.out]; unfold calm; rw [HNB.out.1, HNB.out.2, if_pos hle]
          have d1 : decide (mb ≤ pe) = true := decide_eq_true hle
          have fz := hN2.fr 13
          have hN3 := ma_bhz hN2
          have hre3 : MA (w7.setCell ⟨B, 13, none⟩ (.int .i64 0)) K zMb := (Rt.other_setCell (Ne.symm HNE.out) _ _).trans hre
          have HB8 : Hid (Below w.heap.size w (w7.setCell ⟨B, 13, none⟩ (.int .i64 0))) := HB7.out.setCell (p := ⟨B, 13, none⟩) HGB.out _
          clear hN2 hre hle
          go_upto_region 13 with (fail)
          clear cb ce fz d1
          generalize w7.setCell ⟨B, 13, none⟩ (.int .i64 0) = w8 at *
          go_wp2_with (first | (refine ldMb hN3 rfl _ rfl rfl rfl ?_) | (refine stMb (n := bh0 n) hre3 rfl rfl _ _ rfl rfl rfl ?_))
          refine bodyPost_ret (resRow (p := 4) (t := 5) rfl _ _ K (mba (bh0 n)) rfl (hre3.row (bh0 n)).var) rfl ?_
          exact ⟨by rw [← HA.out, HF2.out]; rfl, Rt.setRow_below HGK.out HB8.out _⟩
        · have HF2 : Hid (arr m pe l a b c = n) := by unfold Hid; rw [HF.out]; unfold calm; rw [HNB.out.1, HNB.out.2, if_neg hle]
          have d1 : decide (mb ≤ pe) = false := decide_eq_false hle
          clear hle
          go_upto_region 13 with (fail)
          clear cb ce d1
          go_wp2_with (first | (refine ldMb hN2 rfl _ rfl rfl rfl ?_) | (refine stMb (n := n) hre rfl rfl _ _ rfl rfl rfl ?_))
          refine bodyPost_ret (resRow (p := 4) (t := 5) rfl _ _ K (mba n) rfl (hre.row n).var) rfl ?_
          exact ⟨by rw [← HA.out, HF2.out]; rfl, Rt.setRow_below HGK.out HB7.out _⟩
    · have hah := Rt.ahead_far m.lf.bas m.lf.stp (p.2.1 - m.ep) hlf (.inr (by omega))
      have HA : Hid _ := TkA.no (tk_2 hy hst) (by decide)
      clear hok hge hpe hme hlf hgs hgE g0 g1 g2 hy hst
      obtain ⟨df, hdf⟩ : ∃ d, p.2.1 - m.ep = d := ⟨_, rfl⟩
      rw [hdf] at hw1
      simp only [hdf] at hah
      have hw1 : IntKind.i64.wrap (p.2.1 - m.ep) = df := by rw [hdf]; exact hw1
      clear hdf
      go_wp2_with fail
      refine (hah _).mono ?_
      rintro r w3 ⟨rfl, hb3⟩
      have hS4 := (hS2.later hb3).later (below_alloc w3 (.cells #[.int .i64 0, .int .i64 0] 23))
      clear hb3 hS2 c2 c3 c4 r2 hw1 hah
      go_upto_region 5 with (fail)
      generalize w3.alloc (.cells #[.int .i64 0, .int .i64 0] 23) = w4 at *
      generalize w3.heap.size = L at *
      go_wp2_with (first | (refine ldMb hS4.mb HM.out _ rfl rfl rfl ?_) | (refine stMb hS4.re HM.out rfl _ _ rfl rfl rfl ?_))
      refine bodyPost_ret (resRow (p := 4) (t := 5) rfl _ _ K (mba m) rfl (hS4.re.row m).var) rfl ?_
      exact ⟨HA.out, Rt.setRow_below hS4.gk hS4.bel _⟩
  · have HA : Hid _ := TkA.no (tk_1 hy) hy
    have d0 : (myE m p != 0) = true := by simpa using hy
    clear hy
    generalize myE m p = ye at *
    go_wp2_with (first | (refine ldMb hS2.mb HM.out _ rfl rfl rfl ?_) | (refine stMb hS2.re HM.out rfl _ _ rfl rfl rfl ?_))
    refine bodyPost_ret (resRow (p := 4) (t := 5) rfl _ _ K (mba m) rfl (hS2.re.row m).var) rfl ?_
    exact ⟨HA.out, Rt.setRow_below hS2.gk hS2.bel _⟩
end Go.Proofs.YtpimbpfefhkojaaGreat.Rv
