/- For any tree, any person and any key: a reply is of no use to a leaf key of another name, unless that one gives every box's Under. No conditions. MADE by wip/mk_rstr.py. -/
import Derived.Test.YtdghibimelhgjaaGreatRows
import Derived.Test.YtdghibimelhgjaaGreatRvI
import Derived.Test.YtdghibimelhgjaaGreatOpenTr
import Derived.Test.YtdghibimelhgjaaGreatOpenKey
import Derived.BigQuiet
import Derived.OpenShut
import Derived.ChangeMaps5
namespace Go.Proofs.YtdghibimelhgjaaGreat.recoveryStrange
open Go.ChangeShapes Go.WideShapes Go.ChangeAt Go.RowKit Go.Maps
open Go.Proofs.YtdghibimelhgjaaGreat.Mb Go.Proofs.YtdghibimelhgjaaGreat.Rv
open Rt (Ky KyAt zK gv gd)
open Rs (tkn fnd)
open Wi (ldM ra_of zP bxl)
set_option linter.unusedVariables false
set_option linter.unusedSimpArgs false

theorem stPm {ops : Array Oper} {rest : List Oper} {o : Oper} {a : Act} {w : World} {Q : Exit → Act → World → Prop} {B off : Nat} {cs : List Value} (x y : Operand) (ho : o.op = .store 25 x y) (hgd : o.guard = none) (hx : a.eval x = .pointer (some ⟨B, off, none⟩)) (hy : a.eval y = .agg cs.toArray) (hl : cs.length = 6) (h1 : cs.all (·.oneCell') = true) (ht : w.there B off cs.length)
    (k : wpList Tryz.prog ops Q rest (a.put o.dst undef) (w.setCells B off cs)) : wpList Tryz.prog ops Q (o :: rest) a w := Wi.stM ht (by rw [hl]; exact szPath) h1 hgd x y ho hx hy k
structure SQ (w W : World) (B Y : Nat) (t : Tr) (k : Ky) : Prop where
  tr : TrAt W B t
  ky : KyAt W Y k
  bel : Below w.heap.size w W
theorem SQ.later {w W W' : World} {B Y : Nat} {t : Tr} {k : Ky} (h : SQ w W B Y t k) (hb : Below W.heap.size W W') : SQ w W' B Y t k := ⟨h.tr.later hb, h.ky.later hb, h.bel.trans (hb.mono h.bel.size)⟩
theorem SQ.new (w : World) (t : Tr) (k : Ky) : SQ w ((w.alloc (.cells (tcs t) 42)).alloc (.cells #[.int .i64 k.bas, .int .i64 k.stp] 23)) w.heap.size (w.heap.size + 1) t k := by
  have h2 := KyAt.new (w.alloc (.cells (tcs t) 42)) k
  rw [World.size_alloc] at h2
  exact ⟨(TrAt.new w t).later (below_alloc _ _), h2, Wi.Below.plus (below_alloc _ _) _⟩
structure SV (w W : World) (Y M P : Nat) (m : Mb) (p : Rp) (k : Ky) : Prop where
  mb : MA W M m
  rp : RA W P p
  ky : KyAt W Y k
  bel : Below w.heap.size w W
theorem SV.later {w W W' : World} {Y M P : Nat} {m : Mb} {p : Rp} {k : Ky} (h : SV w W Y M P m p k) (hb : Below W.heap.size W W') : SV w W' Y M P m p k := ⟨h.mb.later hb, h.rp.later hb, h.ky.later hb, h.bel.trans (hb.mono h.bel.size)⟩
def othG (m : Mb) (k : Ky) : Mb := ⟨m.who, m.slt, m.ep, k, zK, zK, zK, false, m.out, m.bh⟩
theorem oth_cells (m : Mb) (k : Ky) : Wi.upd ((((mba m).setIfInBounds 3 (.int .i64 k.bas)).setIfInBounds 4 (.int .i64 k.stp)).setIfInBounds 11 (.bool false)) 5 (pal zK zK zK) = mba (othG m k) := by kernel_rfl
theorem othG_row {W : World} {M : Nat} {m : Mb} {k : Ky} (h : MA W M m) : MA ((((W.setCell ⟨M, 3, none⟩ (.int .i64 k.bas)).setCell ⟨M, 4, none⟩ (.int .i64 k.stp)).setCell ⟨M, 11, none⟩ (.bool false)).setCells M 5 (pal zK zK zK)) M (othG m k) := by
  have h3 := Rt.row_setCell (Rt.row_setCell (Rt.row_setCell h 3 (.int .i64 k.bas)) 4 (.int .i64 k.stp)) 11 (.bool false)
  have h4 := Wi.row_upd (pal zK zK zK) 5 h3
  rw [oth_cells] at h4
  exact h4
theorem oth_row {W : World} {M : Nat} {t : Tr} {s : Nat} {k : Ky} (h : MA W M (atS t s 0)) : MA ((((W.setCell ⟨M, 3, none⟩ (.int .i64 k.bas)).setCell ⟨M, 4, none⟩ (.int .i64 k.stp)).setCell ⟨M, 11, none⟩ (.bool false)).setCells M 5 (pal zK zK zK)) M (othM t s k) := by
  have h2 := othG_row (k := k) h
  have e : othG (atS t s 0) k = othM t s k := rfl
  rw [e] at h2
  exact h2
theorem oth_there {W : World} {M : Nat} {m : Mb} {k : Ky} (h : MA W M m) : (((W.setCell ⟨M, 3, none⟩ (.int .i64 k.bas)).setCell ⟨M, 4, none⟩ (.int .i64 k.stp)).setCell ⟨M, 11, none⟩ (.bool false)).there M 5 (pal zK zK zK).length :=
  Wi.th_of (Rt.row_setCell (Rt.row_setCell (Rt.row_setCell h 3 (.int .i64 k.bas)) 4 (.int .i64 k.stp)) 11 (.bool false)) 5 6 (by rw [Array.size_setIfInBounds, Array.size_setIfInBounds, Array.size_setIfInBounds, mba_size]; decide)
theorem other9 {W : World} {M C : Nat} (hne : C ≠ M) (a b c : Value) (vs : List Value) : ((((W.setCell ⟨M, 3, none⟩ a).setCell ⟨M, 4, none⟩ b).setCell ⟨M, 11, none⟩ c).setCells M 5 vs).heap[C]? = W.heap[C]? := by
  rw [Wi.other_upd hne, Rt.other_setCell hne, Rt.other_setCell hne, Rt.other_setCell hne]
theorem bel9 {N : Nat} {w W : World} {M : Nat} (h : Below N w W) (hM : N ≤ M) (a b c : Value) (vs : List Value) : Below N w ((((W.setCell ⟨M, 3, none⟩ a).setCell ⟨M, 4, none⟩ b).setCell ⟨M, 11, none⟩ c).setCells M 5 vs) :=
  Wi.upd_below hM vs 5 (((h.setCell (p := ⟨M, 3, none⟩) hM a).setCell (p := ⟨M, 4, none⟩) hM b).setCell (p := ⟨M, 11, none⟩) hM c)
theorem under_at {W : World} {P : Nat} {t : Tr} {s : Nat} (h : RA W P (rpOf (atS t s 0))) : W.rangeAt P 3 [.int .i64 (t.ro s).bas, .int .i64 (t.ep - (t.ro s).snc)] ∧ W.rangeAt P 7 [.int .i64 (t.ro s).bas, .int .i64 (t.ep - (t.ro s).snc)] ∧ W.rangeAt P 11 [.int .i64 (t.ro s).bas, .int .i64 (t.ep - (t.ro s).snc)] := ⟨ra_of h 3 _ rfl, ra_of h 7 _ rfl, ra_of h 11 _ rfl⟩
set_option maxHeartbeats 4000000 in
set_option maxRecDepth 100000 in
theorem walk (f0 : Tr) (a1 : Int) (a2_0 a2_1 : Int) (w1 : (Lit.int .i64 a1).wf = true) (w2_0 : (Lit.int .i64 a2_0).wf = true) (w2_1 : (Lit.int .i64 a2_1).wf = true) (w : World) :
    Calls Tryz.prog 7 #[.agg (tcs f0), .int .i64 a1, .agg #[.int .i64 a2_0, .int .i64 a2_1] ] w fun e w' => e = .returned (.bool true) ∧ Below w.heap.size w w' := by
  clear w1 w2_0 w2_1
  obtain ⟨k, hk0, hk1⟩ : ∃ k : Ky, a2_0 = k.bas ∧ a2_1 = k.stp := ⟨⟨a2_0, a2_1⟩, rfl, rfl⟩
  rw [hk0, hk1]
  clear hk0 hk1
  generalize a1 = x
  have hli := lives16_any
  have hst := stand_r f0 x
  have hgd := rGood_b k
  have hS := SQ.new w f0 k
  obtain ⟨ct, hct⟩ : ∃ c, tcs f0 = c := ⟨_, rfl⟩
  have HT : Hid (tcs f0 = ct) := hct
  rw [hct] at hS
  simp only [hct] at hst
  rw [hct]
  clear hct
  obtain ⟨cs, hcs⟩ : ∃ c, mba (Mb.stM f0 x) = c := ⟨_, rfl⟩
  have HC : Hid (mba (Mb.stM f0 x) = cs) := hcs
  simp only [hcs] at hst
  clear hcs
  go_enter Tryz.func7, Tryz.ntmps7
  go_upto_region 1 with (fail)
  generalize (w.alloc (.cells ct 42)).alloc (.cells #[.int .i64 k.bas, .int .i64 k.stp] 23) = w1 at *
  obtain ⟨Y, hY⟩ : ∃ Q, w.heap.size + 1 = Q := ⟨_, rfl⟩
  obtain ⟨B, hB⟩ : ∃ B, w.heap.size = B := ⟨_, rfl⟩
  have hS1 : SQ w w1 B Y f0 k := by rw [← hB, ← hY]; exact hS
  rw [hY, hB]
  clear hY hB hS
  go_wp2_with fail
  refine (hli _).mono ?_
  rintro r w2 ⟨rfl, hb2⟩
  have hS2 := hS1.later hb2
  clear hb2 hli hS1
  go_wp2_with (refine rdT hS2.tr HT.out _ rfl rfl rfl ?_)
  refine (hst _).mono ?_
  rintro r w3 ⟨rfl, hb3⟩
  have hS4 := (hS2.later hb3).later (below_alloc w3 (.cells cs 27))
  have hM4 := MA.new w3 (Mb.stM f0 x)
  rw [HC.out] at hM4
  have HGM : Hid (w.heap.size ≤ w3.heap.size) := (hS2.later hb3).bel.size
  have HYM : Hid (Y ≠ w3.heap.size) := Nat.ne_of_lt (Wi.row_lt (hS2.later hb3).ky)
  clear hb3 hS2 hst
  go_upto_region 4 with (refine stMn (w := w3) HC.out rfl _ _ rfl rfl rfl ?_)
  generalize w3.alloc (.cells cs 27) = w4 at *
  generalize w3.heap.size = M at *
  by_cases hce : caE f0 x = 0
  · rw [hce]
    obtain ⟨htk, s, hs, _, hkk, hwx, hsm⟩ := on_at hce
    have hep : 1 ≤ f0.ep ∧ f0.ep ≤ 200 := (atS_sat htk hs hkk (b := 0) (.inl rfl)).ep
    obtain ⟨hanE, hanP⟩ := an_at htk hs hkk hep.1 (Int.le_refl _)
    rw [hwx] at hanE hanP
    have han := answer_any f0 x f0.ep
    unfold AnA at han
    rw [hanE, hanP] at han
    rw [hsm] at hM4 HC
    have htk2 := take_any (othM f0 s k) (rpOf (atS f0 s 0))
    have HBAD : Hid (gk k = false → tkE (othM f0 s k) (rpOf (atS f0 s 0)) = 30) := fun h => (tk_1 (by rw [my_1 (by rw [oth_bad hep.1 h]; decide), oth_bad hep.1 h]; decide)).trans ((my_1 (by rw [oth_bad hep.1 h]; decide)).trans (oth_bad hep.1 h))
    have HOK : Hid (gk k = true → tkE (othM f0 s k) (rpOf (atS f0 s 0)) = if gv k.bas k.stp (f0.ro s).bas (f0.ep - (f0.ro s).snc) then 0 else 5) := fun h => oth_take htk hs hkk h
    have HNO : Hid (tkE (othM f0 s k) (rpOf (atS f0 s 0)) ≠ 0 → tkM (othM f0 s k) (rpOf (atS f0 s 0)) = othM f0 s k) := tkM_no
    unfold TkA at htk2
    have HU : Hid (∀ (P : Nat) (W : World), RA W P (rpOf (atS f0 s 0)) → W.rangeAt P 3 [.int .i64 (f0.ro s).bas, .int .i64 (f0.ep - (f0.ro s).snc)] ∧ W.rangeAt P 7 [.int .i64 (f0.ro s).bas, .int .i64 (f0.ep - (f0.ro s).snc)] ∧ W.rangeAt P 11 [.int .i64 (f0.ro s).bas, .int .i64 (f0.ep - (f0.ro s).snc)]) := fun P W h => under_at h
    have HGV0 : Hid (∀ W : World, Calls Tryz.prog 21 #[.agg #[.int .i64 k.bas, .int .i64 k.stp], .agg #[.int .i64 (f0.ro s).bas, .int .i64 (f0.ep - (f0.ro s).snc)]] W fun e w' => e = .returned (.bool (gv k.bas k.stp (f0.ro s).bas (f0.ep - (f0.ro s).snc))) ∧ Below W.heap.size W w') := Rt.rGives_any k.bas k.stp (f0.ro s).bas (f0.ep - (f0.ro s).snc)
    clear hce htk hs hkk hwx hsm hep hanE hanP
    have t0 := hS4.tr.cells.1
    have HROW : Hid (∀ W : World, MA W M (atS f0 s 0) → MA ((((W.setCell ⟨M, 3, none⟩ (.int .i64 k.bas)).setCell ⟨M, 4, none⟩ (.int .i64 k.stp)).setCell ⟨M, 11, none⟩ (.bool false)).setCells M 5 (pal zK zK zK)) M (othM f0 s k)) := fun W h => oth_row h
    generalize (f0.ro s).bas = ub at *
    generalize f0.ep - (f0.ro s).snc = us at *
    generalize f0.ep = te at *
    generalize othM f0 s k = m at *
    generalize atS f0 s 0 = q at *
    generalize rpOf q = p at *
    obtain ⟨n, hn⟩ : ∃ b, tkM m p = b := ⟨_, rfl⟩
    obtain ⟨e, he⟩ : ∃ b, tkE m p = b := ⟨_, rfl⟩
    simp only [hn, he] at htk2
    rw [hn, he] at HNO
    rw [he] at HBAD HOK
    clear hn he
    obtain ⟨cp, hcp⟩ : ∃ c, rpa p = c := ⟨_, rfl⟩
    have HP : Hid (rpa p = cp) := hcp
    simp only [hcp] at han htk2
    clear hcp
    unfold rqa at han
    have han : ∀ W : World, Calls Tryz.prog 13 #[.agg ct, .agg #[.int .i64 x, .int .i64 te]] W fun r w' => r = .returned (.tuple #[.agg cp, .int .i64 0]) ∧ Below W.heap.size W w' := fun W => by rw [← HT.out]; exact han W
    obtain ⟨cm, hcm⟩ : ∃ c, mba m = c := ⟨_, rfl⟩
    have HM : Hid (mba m = cm) := hcm
    simp only [hcm] at htk2
    clear hcm
    obtain ⟨cn, hcn⟩ : ∃ c, mba n = c := ⟨_, rfl⟩
    have HN : Hid (mba n = cn) := hcn
    simp only [hcn] at htk2
    clear hcn
    go_wp2_with (refine rdT hS4.tr HT.out _ rfl rfl rfl ?_)
    refine (han _).mono ?_
    rintro r w5 ⟨rfl, hb5⟩
    have hS6 := (hS4.later hb5).later (below_alloc w5 (.cells (rpa p) 47))
    have hM6 := (hM4.later hb5).later (below_alloc w5 (.cells (rpa p) 47))
    have hP6 := RA.new w5 p
    have HPM : Hid (w5.heap.size ≠ M) := (Nat.ne_of_lt (hM4.later hb5).lt).symm
    clear hb5 hS4 han t0 hM4
    go_upto_region 7 with (refine stRpn (w := w5) zP p rfl HP.out rfl _ _ rfl rfl rfl ?_)
    generalize w5.alloc (.cells (rpa p) 47) = w6 at *
    generalize w5.heap.size = P at *
    have HU : Hid _ := HU.out P
    obtain ⟨y0, y1⟩ := hS6.ky.cells
    obtain ⟨z3, z4⟩ := hM6.leaf
    have z11 := hM6.has
    have f3 := hM6.fr 3
    have f4 := hM6.fr 4
    have f11 := hM6.fr 11
    obtain ⟨⟨z5, z6⟩, ⟨z7, z8⟩, z9, z10⟩ := hM6.key
    have f5 := hM6.fr 5
    have f6 := hM6.fr 6
    have f7 := hM6.fr 7
    have f8 := hM6.fr 8
    have f9 := hM6.fr 9
    have f10 := hM6.fr 10
    have hV : SV w ((((w6.setCell ⟨M, 3, none⟩ (.int .i64 k.bas)).setCell ⟨M, 4, none⟩ (.int .i64 k.stp)).setCell ⟨M, 11, none⟩ (.bool false)).setCells M 5 (pal zK zK zK)) Y M P m p k := ⟨HROW.out _ hM6, (other9 HPM.out _ _ _ _).trans hP6, (other9 HYM.out _ _ _ _).trans hS6.ky, bel9 hS6.bel HGM.out _ _ _ _⟩
    have hV : SV w (((((((((w6.setCell ⟨M, 3, none⟩ (.int .i64 k.bas)).setCell ⟨M, 4, none⟩ (.int .i64 k.stp)).setCell ⟨M, 11, none⟩ (.bool false)).setCell ⟨M, 5, none⟩ (.int .i64 0)).setCell ⟨M, 6, none⟩ (.int .i64 0)).setCell ⟨M, 7, none⟩ (.int .i64 0)).setCell ⟨M, 8, none⟩ (.int .i64 0)).setCell ⟨M, 9, none⟩ (.int .i64 0)).setCell ⟨M, 10, none⟩ (.int .i64 0)) Y M P m p k := hV
    have HV : Hid _ := hV
    clear hS6 hM6 hP6 HROW hV
    go_upto_region 11 with (fail)
    clear y0 y1 z3 z4 z5 z6 z7 z8 z9 z10 z11 f3 f4 f5 f6 f7 f8 f9 f10 f11
    have hV := HV.out
    clear HV
    generalize ((((((((w6.setCell ⟨M, 3, none⟩ (.int .i64 k.bas)).setCell ⟨M, 4, none⟩ (.int .i64 k.stp)).setCell ⟨M, 11, none⟩ (.bool false)).setCell ⟨M, 5, none⟩ (.int .i64 0)).setCell ⟨M, 6, none⟩ (.int .i64 0)).setCell ⟨M, 7, none⟩ (.int .i64 0)).setCell ⟨M, 8, none⟩ (.int .i64 0)).setCell ⟨M, 9, none⟩ (.int .i64 0)).setCell ⟨M, 10, none⟩ (.int .i64 0) = w7 at *
    go_wp2_with (first | (refine ldMb hV.mb HM.out _ rfl rfl rfl ?_) | (refine ldRp hV.rp HP.out _ rfl rfl rfl ?_))
    refine (htk2 _).mono ?_
    rintro r w8 ⟨rfl, hb8⟩
    have hV9 := (hV.later hb8).later (below_alloc w8 (.cells cn 27))
    have hN9 := MA.new w8 n
    rw [HN.out] at hN9
    clear hb8 hV htk2
    go_upto_region 12 with (refine stMn (w := w8) HN.out rfl _ _ rfl rfl rfl ?_)
    generalize w8.alloc (.cells cn 27) = w9 at *
    generalize w8.heap.size = D at *
    obtain ⟨y0, y1⟩ := hV9.ky.cells
    obtain ⟨g0, hg0⟩ : ∃ b, gk k = b := ⟨_, rfl⟩
    have hgd : ∀ W : World, Calls Tryz.prog 20 #[.agg #[.int .i64 k.bas, .int .i64 k.stp] ] W fun e w' => e = .returned (.bool g0) ∧ Below W.heap.size W w' := fun W => by rw [← hg0]; exact hgd W
    rw [hg0] at HBAD HOK
    clear hg0
    go_wp2_with fail
    refine (hgd _).mono ?_
    rintro r w10 ⟨rfl, hb10⟩
    have hV := hV9.later hb10
    have hN := hN9.later hb10
    clear hV9 hN9 hb10 hgd y0 y1 HP HC HT
    have HNN : Hid (mE n n = true) := mE_iff.2 rfl
    cases g0 with
    | false =>
      obtain rfl := HBAD.out rfl
      obtain rfl := HNO.out (by decide)
      have HB : Hid (Below w.heap.size w w10) := hV.bel
      have hM := hV.mb
      clear hV
      go_upto_region 13 with (fail)
      go_wp2_with (first | (refine ldMb hN HN.out _ rfl rfl rfl ?_) | (refine ldMb hM HN.out _ rfl rfl rfl ?_) | (refine eqM HN.out HN.out HNN.out _ _ rfl rfl rfl rfl ?_))
      go_ret
      exact ⟨rfl, HB.out⟩
    | true =>
      have hee := HOK.out rfl
      cases hg : gv k.bas k.stp ub us with
      | true =>
        rw [hg] at hee HGV0
        have HGV : Hid _ := HGV0.out
        obtain rfl : e = 0 := hee
        clear hg HGV0 HBAD HOK HNO
        go_wp2_with fail
        refine wp_loop_rounds 4 ?_
        rw [rounds_succ]
        go_upto_region 18 with (fail)
        have hS0 : SV w w10.drew Y M P m p k ∧ MA w10.drew D n := ⟨hV.later (drew_below _), hN.later (drew_below _)⟩
        clear hV hN
        refine wp_region_held_drew (S := fun W => SV w W Y M P m p k ∧ MA W D n) (by kernel_rfl) hS0 (fun hHeld => ?_)
        clear hS0
        generalize w10.drew = wd at *
        refine wpAnyH_take (i := 0) (oi := { dst := some 59, op := Op.move (Operand.tmp 11), type := _, pos := _, after := _, guard := none }) (v := .bool true) rfl (by kernel_rfl) (by kernel_rfl) (by kernel_rfl) (fun _ _ _ h => h) (Or.inl ⟨by rfl, fun w hSw => by (try dsimp only at hSw); go_simp⟩) (by assumption) ?_
        simp only [Act.put, List.setIfInBounds_toArray, List.set_cons_zero, List.set_cons_succ]
        refine wpAnyH_take (i := 1) (oi := { dst := some 60, op := Op.move (Operand.tmp 59), type := _, pos := _, after := _, guard := none }) (v := .bool true) rfl (by kernel_rfl) (by kernel_rfl) (by kernel_rfl) (fun _ _ _ h => h) (Or.inl ⟨by rfl, fun w hSw => by (try dsimp only at hSw); go_simp⟩) (by assumption) ?_
        simp only [Act.put, List.setIfInBounds_toArray, List.set_cons_zero, List.set_cons_succ]
        refine wpAnyH_take (i := 2) (oi := { dst := some 61, op := Op.load 23 (Operand.tmp 5), type := _, pos := _, after := _, guard := some (1, true) }) (v := .agg #[.int .i64 k.bas, .int .i64 k.stp]) rfl (by kernel_rfl) (by kernel_rfl) (by kernel_rfl) (fun _ _ _ h => h) (Or.inl ⟨by rfl, fun w hSw => by obtain ⟨c0, c1⟩ := hSw.1.ky.cells; clear hSw; go_simp⟩) (by assumption) ?_
        simp only [Act.put, List.setIfInBounds_toArray, List.set_cons_zero, List.set_cons_succ]
        refine wpAnyH_take (i := 3) (oi := { dst := some 62, op := Op.move (Operand.tmp 12), type := _, pos := _, after := _, guard := some (1, true) }) (v := .int .i64 0) rfl (by kernel_rfl) (by kernel_rfl) (by kernel_rfl) (fun _ _ _ h => h) (Or.inl ⟨by rfl, fun w hSw => by (try dsimp only at hSw); go_simp⟩) (by assumption) ?_
        simp only [Act.put, List.setIfInBounds_toArray, List.set_cons_zero, List.set_cons_succ]
        refine wpAnyH_take (i := 4) (oi := { dst := some 63, op := Op.fieldAddr 47 (Operand.tmp 9) 3, type := _, pos := _, after := _, guard := some (1, true) }) (v := .pointer (some ⟨P, 3, none⟩)) rfl (by kernel_rfl) (by kernel_rfl) (by kernel_rfl) (fun _ _ _ h => h) (Or.inl ⟨by rfl, fun w hSw => by (try dsimp only at hSw); go_simp⟩) (by assumption) ?_
        simp only [Act.put, List.setIfInBounds_toArray, List.set_cons_zero, List.set_cons_succ]
        refine wpAnyH_take (i := 5) (oi := { dst := some 64, op := Op.indexAddr 45 (Operand.tmp 63) (Operand.tmp 62), type := _, pos := _, after := _, guard := some (1, true) }) (v := .pointer (some ⟨P, 3, none⟩)) rfl (by kernel_rfl) (by kernel_rfl) (by kernel_rfl) (fun _ _ _ h => h) (Or.inl ⟨by rfl, fun w hSw => by (try dsimp only at hSw); go_simp⟩) (by assumption) ?_
        simp only [Act.put, List.setIfInBounds_toArray, List.set_cons_zero, List.set_cons_succ]
        refine wpAnyH_take (i := 6) (oi := { dst := some 65, op := Op.fieldAddr 44 (Operand.tmp 64) 0, type := _, pos := _, after := _, guard := some (1, true) }) (v := .pointer (some ⟨P, 3, none⟩)) rfl (by kernel_rfl) (by kernel_rfl) (by kernel_rfl) (fun _ _ _ h => h) (Or.inl ⟨by rfl, fun w hSw => by (try dsimp only at hSw); go_simp⟩) (by assumption) ?_
        simp only [Act.put, List.setIfInBounds_toArray, List.set_cons_zero, List.set_cons_succ]
        refine wpAnyH_take (i := 7) (oi := { dst := some 66, op := Op.load 23 (Operand.tmp 65), type := _, pos := _, after := _, guard := some (1, true) }) (v := .agg #[.int .i64 ub, .int .i64 us]) rfl (by kernel_rfl) (by kernel_rfl) (by kernel_rfl) (fun _ _ _ h => h) (Or.inl ⟨by rfl, fun w hSw => by exact Wi.ld_ex (HU.out _ hSw.1.rp).1 Tryz.underlying23 rfl Wi.szKey rfl rfl⟩) (by assumption) ?_
        simp only [Act.put, List.setIfInBounds_toArray, List.set_cons_zero, List.set_cons_succ]
        refine wpAnyH_ready (rs := [8]) (by kernel_rfl) (by simp) ?_
        refine AllReadyH.cons rfl (fun K hK => ?_) AllReadyH.nil
        go_simp
        refine (HGV.out _).mono ?_
        rintro e w7 ⟨rfl, hb7⟩
        go_wp2_with fail
        refine hK.out _ _ ⟨hHeld.1.later hb7, hHeld.2.later hb7⟩ (fun hHeld2 => ?_)
        clear hHeld hb7
        clear hK K
        try simp only [Act.put, List.setIfInBounds_toArray, List.set_cons_zero, List.set_cons_succ]
        refine wpAnyH_take (i := 9) (oi := { dst := some 68, op := Op.pick (Operand.tmp 60) (Operand.tmp 67) (Operand.const (Value.bool false)), type := _, pos := _, after := _, guard := none }) (v := .bool true) rfl (by kernel_rfl) (by kernel_rfl) (by kernel_rfl) (fun _ _ _ h => h) (Or.inl ⟨by rfl, fun w hSw => by (try dsimp only at hSw); go_simp⟩) (by assumption) ?_
        simp only [Act.put, List.setIfInBounds_toArray, List.set_cons_zero, List.set_cons_succ]
        refine wpAnyH_take (i := 10) (oi := { dst := some 11, op := Op.assign (Operand.tmp 68), type := _, pos := _, after := _, guard := none }) (v := .bool true) rfl (by kernel_rfl) (by kernel_rfl) (by kernel_rfl) (fun _ _ _ h => h) (Or.inl ⟨by rfl, fun w hSw => by (try dsimp only at hSw); go_simp⟩) (by assumption) ?_
        simp only [Act.put, List.setIfInBounds_toArray, List.set_cons_zero, List.set_cons_succ]
        refine wpAnyH_done (by kernel_rfl) ?_ _
        obtain ⟨hV, hN⟩ := hHeld2
        go_wp2_with fail
        rw [rounds_succ]
        go_upto_region 18 with (fail)
        have hS0 : SV w w7.drew Y M P m p k ∧ MA w7.drew D n := ⟨hV.later (drew_below _), hN.later (drew_below _)⟩
        clear hV hN
        refine wp_region_held_drew (S := fun W => SV w W Y M P m p k ∧ MA W D n) (by kernel_rfl) hS0 (fun hHeld => ?_)
        clear hS0
        generalize w7.drew = wd at *
        refine wpAnyH_take (i := 0) (oi := { dst := some 59, op := Op.move (Operand.tmp 11), type := _, pos := _, after := _, guard := none }) (v := .bool true) rfl (by kernel_rfl) (by kernel_rfl) (by kernel_rfl) (fun _ _ _ h => h) (Or.inl ⟨by rfl, fun w hSw => by (try dsimp only at hSw); go_simp⟩) (by assumption) ?_
        simp only [Act.put, List.setIfInBounds_toArray, List.set_cons_zero, List.set_cons_succ]
        refine wpAnyH_take (i := 1) (oi := { dst := some 60, op := Op.move (Operand.tmp 59), type := _, pos := _, after := _, guard := none }) (v := .bool true) rfl (by kernel_rfl) (by kernel_rfl) (by kernel_rfl) (fun _ _ _ h => h) (Or.inl ⟨by rfl, fun w hSw => by (try dsimp only at hSw); go_simp⟩) (by assumption) ?_
        simp only [Act.put, List.setIfInBounds_toArray, List.set_cons_zero, List.set_cons_succ]
        refine wpAnyH_take (i := 2) (oi := { dst := some 61, op := Op.load 23 (Operand.tmp 5), type := _, pos := _, after := _, guard := some (1, true) }) (v := .agg #[.int .i64 k.bas, .int .i64 k.stp]) rfl (by kernel_rfl) (by kernel_rfl) (by kernel_rfl) (fun _ _ _ h => h) (Or.inl ⟨by rfl, fun w hSw => by obtain ⟨c0, c1⟩ := hSw.1.ky.cells; clear hSw; go_simp⟩) (by assumption) ?_
        simp only [Act.put, List.setIfInBounds_toArray, List.set_cons_zero, List.set_cons_succ]
        refine wpAnyH_take (i := 3) (oi := { dst := some 62, op := Op.move (Operand.tmp 12), type := _, pos := _, after := _, guard := some (1, true) }) (v := .int .i64 1) rfl (by kernel_rfl) (by kernel_rfl) (by kernel_rfl) (fun _ _ _ h => h) (Or.inl ⟨by rfl, fun w hSw => by (try dsimp only at hSw); go_simp⟩) (by assumption) ?_
        simp only [Act.put, List.setIfInBounds_toArray, List.set_cons_zero, List.set_cons_succ]
        refine wpAnyH_take (i := 4) (oi := { dst := some 63, op := Op.fieldAddr 47 (Operand.tmp 9) 3, type := _, pos := _, after := _, guard := some (1, true) }) (v := .pointer (some ⟨P, 3, none⟩)) rfl (by kernel_rfl) (by kernel_rfl) (by kernel_rfl) (fun _ _ _ h => h) (Or.inl ⟨by rfl, fun w hSw => by (try dsimp only at hSw); go_simp⟩) (by assumption) ?_
        simp only [Act.put, List.setIfInBounds_toArray, List.set_cons_zero, List.set_cons_succ]
        refine wpAnyH_take (i := 5) (oi := { dst := some 64, op := Op.indexAddr 45 (Operand.tmp 63) (Operand.tmp 62), type := _, pos := _, after := _, guard := some (1, true) }) (v := .pointer (some ⟨P, 7, none⟩)) rfl (by kernel_rfl) (by kernel_rfl) (by kernel_rfl) (fun _ _ _ h => h) (Or.inl ⟨by rfl, fun w hSw => by (try dsimp only at hSw); go_simp⟩) (by assumption) ?_
        simp only [Act.put, List.setIfInBounds_toArray, List.set_cons_zero, List.set_cons_succ]
        refine wpAnyH_take (i := 6) (oi := { dst := some 65, op := Op.fieldAddr 44 (Operand.tmp 64) 0, type := _, pos := _, after := _, guard := some (1, true) }) (v := .pointer (some ⟨P, 7, none⟩)) rfl (by kernel_rfl) (by kernel_rfl) (by kernel_rfl) (fun _ _ _ h => h) (Or.inl ⟨by rfl, fun w hSw => by (try dsimp only at hSw); go_simp⟩) (by assumption) ?_
        simp only [Act.put, List.setIfInBounds_toArray, List.set_cons_zero, List.set_cons_succ]
        refine wpAnyH_take (i := 7) (oi := { dst := some 66, op := Op.load 23 (Operand.tmp 65), type := _, pos := _, after := _, guard := some (1, true) }) (v := .agg #[.int .i64 ub, .int .i64 us]) rfl (by kernel_rfl) (by kernel_rfl) (by kernel_rfl) (fun _ _ _ h => h) (Or.inl ⟨by rfl, fun w hSw => by exact Wi.ld_ex (HU.out _ hSw.1.rp).2.1 Tryz.underlying23 rfl Wi.szKey rfl rfl⟩) (by assumption) ?_
        simp only [Act.put, List.setIfInBounds_toArray, List.set_cons_zero, List.set_cons_succ]
        refine wpAnyH_ready (rs := [8]) (by kernel_rfl) (by simp) ?_
        refine AllReadyH.cons rfl (fun K hK => ?_) AllReadyH.nil
        go_simp
        refine (HGV.out _).mono ?_
        rintro e w7 ⟨rfl, hb7⟩
        go_wp2_with fail
        refine hK.out _ _ ⟨hHeld.1.later hb7, hHeld.2.later hb7⟩ (fun hHeld2 => ?_)
        clear hHeld hb7
        clear hK K
        try simp only [Act.put, List.setIfInBounds_toArray, List.set_cons_zero, List.set_cons_succ]
        refine wpAnyH_take (i := 9) (oi := { dst := some 68, op := Op.pick (Operand.tmp 60) (Operand.tmp 67) (Operand.const (Value.bool false)), type := _, pos := _, after := _, guard := none }) (v := .bool true) rfl (by kernel_rfl) (by kernel_rfl) (by kernel_rfl) (fun _ _ _ h => h) (Or.inl ⟨by rfl, fun w hSw => by (try dsimp only at hSw); go_simp⟩) (by assumption) ?_
        simp only [Act.put, List.setIfInBounds_toArray, List.set_cons_zero, List.set_cons_succ]
        refine wpAnyH_take (i := 10) (oi := { dst := some 11, op := Op.assign (Operand.tmp 68), type := _, pos := _, after := _, guard := none }) (v := .bool true) rfl (by kernel_rfl) (by kernel_rfl) (by kernel_rfl) (fun _ _ _ h => h) (Or.inl ⟨by rfl, fun w hSw => by (try dsimp only at hSw); go_simp⟩) (by assumption) ?_
        simp only [Act.put, List.setIfInBounds_toArray, List.set_cons_zero, List.set_cons_succ]
        refine wpAnyH_done (by kernel_rfl) ?_ _
        obtain ⟨hV, hN⟩ := hHeld2
        go_wp2_with fail
        rw [rounds_succ]
        go_upto_region 18 with (fail)
        have hS0 : SV w w7.drew Y M P m p k ∧ MA w7.drew D n := ⟨hV.later (drew_below _), hN.later (drew_below _)⟩
        clear hV hN
        refine wp_region_held_drew (S := fun W => SV w W Y M P m p k ∧ MA W D n) (by kernel_rfl) hS0 (fun hHeld => ?_)
        clear hS0
        generalize w7.drew = wd at *
        refine wpAnyH_take (i := 0) (oi := { dst := some 59, op := Op.move (Operand.tmp 11), type := _, pos := _, after := _, guard := none }) (v := .bool true) rfl (by kernel_rfl) (by kernel_rfl) (by kernel_rfl) (fun _ _ _ h => h) (Or.inl ⟨by rfl, fun w hSw => by (try dsimp only at hSw); go_simp⟩) (by assumption) ?_
        simp only [Act.put, List.setIfInBounds_toArray, List.set_cons_zero, List.set_cons_succ]
        refine wpAnyH_take (i := 1) (oi := { dst := some 60, op := Op.move (Operand.tmp 59), type := _, pos := _, after := _, guard := none }) (v := .bool true) rfl (by kernel_rfl) (by kernel_rfl) (by kernel_rfl) (fun _ _ _ h => h) (Or.inl ⟨by rfl, fun w hSw => by (try dsimp only at hSw); go_simp⟩) (by assumption) ?_
        simp only [Act.put, List.setIfInBounds_toArray, List.set_cons_zero, List.set_cons_succ]
        refine wpAnyH_take (i := 2) (oi := { dst := some 61, op := Op.load 23 (Operand.tmp 5), type := _, pos := _, after := _, guard := some (1, true) }) (v := .agg #[.int .i64 k.bas, .int .i64 k.stp]) rfl (by kernel_rfl) (by kernel_rfl) (by kernel_rfl) (fun _ _ _ h => h) (Or.inl ⟨by rfl, fun w hSw => by obtain ⟨c0, c1⟩ := hSw.1.ky.cells; clear hSw; go_simp⟩) (by assumption) ?_
        simp only [Act.put, List.setIfInBounds_toArray, List.set_cons_zero, List.set_cons_succ]
        refine wpAnyH_take (i := 3) (oi := { dst := some 62, op := Op.move (Operand.tmp 12), type := _, pos := _, after := _, guard := some (1, true) }) (v := .int .i64 2) rfl (by kernel_rfl) (by kernel_rfl) (by kernel_rfl) (fun _ _ _ h => h) (Or.inl ⟨by rfl, fun w hSw => by (try dsimp only at hSw); go_simp⟩) (by assumption) ?_
        simp only [Act.put, List.setIfInBounds_toArray, List.set_cons_zero, List.set_cons_succ]
        refine wpAnyH_take (i := 4) (oi := { dst := some 63, op := Op.fieldAddr 47 (Operand.tmp 9) 3, type := _, pos := _, after := _, guard := some (1, true) }) (v := .pointer (some ⟨P, 3, none⟩)) rfl (by kernel_rfl) (by kernel_rfl) (by kernel_rfl) (fun _ _ _ h => h) (Or.inl ⟨by rfl, fun w hSw => by (try dsimp only at hSw); go_simp⟩) (by assumption) ?_
        simp only [Act.put, List.setIfInBounds_toArray, List.set_cons_zero, List.set_cons_succ]
        refine wpAnyH_take (i := 5) (oi := { dst := some 64, op := Op.indexAddr 45 (Operand.tmp 63) (Operand.tmp 62), type := _, pos := _, after := _, guard := some (1, true) }) (v := .pointer (some ⟨P, 11, none⟩)) rfl (by kernel_rfl) (by kernel_rfl) (by kernel_rfl) (fun _ _ _ h => h) (Or.inl ⟨by rfl, fun w hSw => by (try dsimp only at hSw); go_simp⟩) (by assumption) ?_
        simp only [Act.put, List.setIfInBounds_toArray, List.set_cons_zero, List.set_cons_succ]
        refine wpAnyH_take (i := 6) (oi := { dst := some 65, op := Op.fieldAddr 44 (Operand.tmp 64) 0, type := _, pos := _, after := _, guard := some (1, true) }) (v := .pointer (some ⟨P, 11, none⟩)) rfl (by kernel_rfl) (by kernel_rfl) (by kernel_rfl) (fun _ _ _ h => h) (Or.inl ⟨by rfl, fun w hSw => by (try dsimp only at hSw); go_simp⟩) (by assumption) ?_
        simp only [Act.put, List.setIfInBounds_toArray, List.set_cons_zero, List.set_cons_succ]
        refine wpAnyH_take (i := 7) (oi := { dst := some 66, op := Op.load 23 (Operand.tmp 65), type := _, pos := _, after := _, guard := some (1, true) }) (v := .agg #[.int .i64 ub, .int .i64 us]) rfl (by kernel_rfl) (by kernel_rfl) (by kernel_rfl) (fun _ _ _ h => h) (Or.inl ⟨by rfl, fun w hSw => by exact Wi.ld_ex (HU.out _ hSw.1.rp).2.2 Tryz.underlying23 rfl Wi.szKey rfl rfl⟩) (by assumption) ?_
        simp only [Act.put, List.setIfInBounds_toArray, List.set_cons_zero, List.set_cons_succ]
        refine wpAnyH_ready (rs := [8]) (by kernel_rfl) (by simp) ?_
        refine AllReadyH.cons rfl (fun K hK => ?_) AllReadyH.nil
        go_simp
        refine (HGV.out _).mono ?_
        rintro e w7 ⟨rfl, hb7⟩
        go_wp2_with fail
        refine hK.out _ _ ⟨hHeld.1.later hb7, hHeld.2.later hb7⟩ (fun hHeld2 => ?_)
        clear hHeld hb7
        clear hK K
        try simp only [Act.put, List.setIfInBounds_toArray, List.set_cons_zero, List.set_cons_succ]
        refine wpAnyH_take (i := 9) (oi := { dst := some 68, op := Op.pick (Operand.tmp 60) (Operand.tmp 67) (Operand.const (Value.bool false)), type := _, pos := _, after := _, guard := none }) (v := .bool true) rfl (by kernel_rfl) (by kernel_rfl) (by kernel_rfl) (fun _ _ _ h => h) (Or.inl ⟨by rfl, fun w hSw => by (try dsimp only at hSw); go_simp⟩) (by assumption) ?_
        simp only [Act.put, List.setIfInBounds_toArray, List.set_cons_zero, List.set_cons_succ]
        refine wpAnyH_take (i := 10) (oi := { dst := some 11, op := Op.assign (Operand.tmp 68), type := _, pos := _, after := _, guard := none }) (v := .bool true) rfl (by kernel_rfl) (by kernel_rfl) (by kernel_rfl) (fun _ _ _ h => h) (Or.inl ⟨by rfl, fun w hSw => by (try dsimp only at hSw); go_simp⟩) (by assumption) ?_
        simp only [Act.put, List.setIfInBounds_toArray, List.set_cons_zero, List.set_cons_succ]
        refine wpAnyH_done (by kernel_rfl) ?_ _
        obtain ⟨hV, hN⟩ := hHeld2
        go_wp2_with fail
        rw [rounds_succ]
        have HB : Hid (Below w.heap.size w w7) := hV.bel
        have hM := hV.mb
        clear hV
        go_upto_region 19 with (fail)
        go_wp2_with fail
        go_ret
        exact ⟨rfl, HB.out⟩
      | false =>
        rw [hg] at hee HGV0
        have HGV : Hid _ := HGV0.out
        obtain rfl : e = 5 := hee
        obtain rfl := HNO.out (by decide)
        clear hg HGV0 HBAD HOK HNO
        go_wp2_with fail
        refine wp_loop_rounds 4 ?_
        rw [rounds_succ]
        go_upto_region 18 with (fail)
        have hS0 : SV w w10.drew Y M P n p k ∧ MA w10.drew D n := ⟨hV.later (drew_below _), hN.later (drew_below _)⟩
        clear hV hN
        refine wp_region_held_drew (S := fun W => SV w W Y M P n p k ∧ MA W D n) (by kernel_rfl) hS0 (fun hHeld => ?_)
        clear hS0
        generalize w10.drew = wd at *
        refine wpAnyH_take (i := 0) (oi := { dst := some 59, op := Op.move (Operand.tmp 11), type := _, pos := _, after := _, guard := none }) (v := .bool true) rfl (by kernel_rfl) (by kernel_rfl) (by kernel_rfl) (fun _ _ _ h => h) (Or.inl ⟨by rfl, fun w hSw => by (try dsimp only at hSw); go_simp⟩) (by assumption) ?_
        simp only [Act.put, List.setIfInBounds_toArray, List.set_cons_zero, List.set_cons_succ]
        refine wpAnyH_take (i := 1) (oi := { dst := some 60, op := Op.move (Operand.tmp 59), type := _, pos := _, after := _, guard := none }) (v := .bool true) rfl (by kernel_rfl) (by kernel_rfl) (by kernel_rfl) (fun _ _ _ h => h) (Or.inl ⟨by rfl, fun w hSw => by (try dsimp only at hSw); go_simp⟩) (by assumption) ?_
        simp only [Act.put, List.setIfInBounds_toArray, List.set_cons_zero, List.set_cons_succ]
        refine wpAnyH_take (i := 2) (oi := { dst := some 61, op := Op.load 23 (Operand.tmp 5), type := _, pos := _, after := _, guard := some (1, true) }) (v := .agg #[.int .i64 k.bas, .int .i64 k.stp]) rfl (by kernel_rfl) (by kernel_rfl) (by kernel_rfl) (fun _ _ _ h => h) (Or.inl ⟨by rfl, fun w hSw => by obtain ⟨c0, c1⟩ := hSw.1.ky.cells; clear hSw; go_simp⟩) (by assumption) ?_
        simp only [Act.put, List.setIfInBounds_toArray, List.set_cons_zero, List.set_cons_succ]
        refine wpAnyH_take (i := 3) (oi := { dst := some 62, op := Op.move (Operand.tmp 12), type := _, pos := _, after := _, guard := some (1, true) }) (v := .int .i64 0) rfl (by kernel_rfl) (by kernel_rfl) (by kernel_rfl) (fun _ _ _ h => h) (Or.inl ⟨by rfl, fun w hSw => by (try dsimp only at hSw); go_simp⟩) (by assumption) ?_
        simp only [Act.put, List.setIfInBounds_toArray, List.set_cons_zero, List.set_cons_succ]
        refine wpAnyH_take (i := 4) (oi := { dst := some 63, op := Op.fieldAddr 47 (Operand.tmp 9) 3, type := _, pos := _, after := _, guard := some (1, true) }) (v := .pointer (some ⟨P, 3, none⟩)) rfl (by kernel_rfl) (by kernel_rfl) (by kernel_rfl) (fun _ _ _ h => h) (Or.inl ⟨by rfl, fun w hSw => by (try dsimp only at hSw); go_simp⟩) (by assumption) ?_
        simp only [Act.put, List.setIfInBounds_toArray, List.set_cons_zero, List.set_cons_succ]
        refine wpAnyH_take (i := 5) (oi := { dst := some 64, op := Op.indexAddr 45 (Operand.tmp 63) (Operand.tmp 62), type := _, pos := _, after := _, guard := some (1, true) }) (v := .pointer (some ⟨P, 3, none⟩)) rfl (by kernel_rfl) (by kernel_rfl) (by kernel_rfl) (fun _ _ _ h => h) (Or.inl ⟨by rfl, fun w hSw => by (try dsimp only at hSw); go_simp⟩) (by assumption) ?_
        simp only [Act.put, List.setIfInBounds_toArray, List.set_cons_zero, List.set_cons_succ]
        refine wpAnyH_take (i := 6) (oi := { dst := some 65, op := Op.fieldAddr 44 (Operand.tmp 64) 0, type := _, pos := _, after := _, guard := some (1, true) }) (v := .pointer (some ⟨P, 3, none⟩)) rfl (by kernel_rfl) (by kernel_rfl) (by kernel_rfl) (fun _ _ _ h => h) (Or.inl ⟨by rfl, fun w hSw => by (try dsimp only at hSw); go_simp⟩) (by assumption) ?_
        simp only [Act.put, List.setIfInBounds_toArray, List.set_cons_zero, List.set_cons_succ]
        refine wpAnyH_take (i := 7) (oi := { dst := some 66, op := Op.load 23 (Operand.tmp 65), type := _, pos := _, after := _, guard := some (1, true) }) (v := .agg #[.int .i64 ub, .int .i64 us]) rfl (by kernel_rfl) (by kernel_rfl) (by kernel_rfl) (fun _ _ _ h => h) (Or.inl ⟨by rfl, fun w hSw => by exact Wi.ld_ex (HU.out _ hSw.1.rp).1 Tryz.underlying23 rfl Wi.szKey rfl rfl⟩) (by assumption) ?_
        simp only [Act.put, List.setIfInBounds_toArray, List.set_cons_zero, List.set_cons_succ]
        refine wpAnyH_ready (rs := [8]) (by kernel_rfl) (by simp) ?_
        refine AllReadyH.cons rfl (fun K hK => ?_) AllReadyH.nil
        go_simp
        refine (HGV.out _).mono ?_
        rintro e w7 ⟨rfl, hb7⟩
        go_wp2_with fail
        refine hK.out _ _ ⟨hHeld.1.later hb7, hHeld.2.later hb7⟩ (fun hHeld2 => ?_)
        clear hHeld hb7
        clear hK K
        try simp only [Act.put, List.setIfInBounds_toArray, List.set_cons_zero, List.set_cons_succ]
        refine wpAnyH_take (i := 9) (oi := { dst := some 68, op := Op.pick (Operand.tmp 60) (Operand.tmp 67) (Operand.const (Value.bool false)), type := _, pos := _, after := _, guard := none }) (v := .bool false) rfl (by kernel_rfl) (by kernel_rfl) (by kernel_rfl) (fun _ _ _ h => h) (Or.inl ⟨by rfl, fun w hSw => by (try dsimp only at hSw); go_simp⟩) (by assumption) ?_
        simp only [Act.put, List.setIfInBounds_toArray, List.set_cons_zero, List.set_cons_succ]
        refine wpAnyH_take (i := 10) (oi := { dst := some 11, op := Op.assign (Operand.tmp 68), type := _, pos := _, after := _, guard := none }) (v := .bool false) rfl (by kernel_rfl) (by kernel_rfl) (by kernel_rfl) (fun _ _ _ h => h) (Or.inl ⟨by rfl, fun w hSw => by (try dsimp only at hSw); go_simp⟩) (by assumption) ?_
        simp only [Act.put, List.setIfInBounds_toArray, List.set_cons_zero, List.set_cons_succ]
        refine wpAnyH_done (by kernel_rfl) ?_ _
        obtain ⟨hV, hN⟩ := hHeld2
        go_wp2_with fail
        rw [rounds_succ]
        go_upto_region 18 with (fail)
        have hS0 : SV w w7.drew Y M P n p k ∧ MA w7.drew D n := ⟨hV.later (drew_below _), hN.later (drew_below _)⟩
        clear hV hN
        refine wp_region_held_drew (S := fun W => SV w W Y M P n p k ∧ MA W D n) (by kernel_rfl) hS0 (fun hHeld => ?_)
        clear hS0
        generalize w7.drew = wd at *
        refine wpAnyH_take (i := 0) (oi := { dst := some 59, op := Op.move (Operand.tmp 11), type := _, pos := _, after := _, guard := none }) (v := .bool false) rfl (by kernel_rfl) (by kernel_rfl) (by kernel_rfl) (fun _ _ _ h => h) (Or.inl ⟨by rfl, fun w hSw => by (try dsimp only at hSw); go_simp⟩) (by assumption) ?_
        simp only [Act.put, List.setIfInBounds_toArray, List.set_cons_zero, List.set_cons_succ]
        refine wpAnyH_take (i := 1) (oi := { dst := some 60, op := Op.move (Operand.tmp 59), type := _, pos := _, after := _, guard := none }) (v := .bool false) rfl (by kernel_rfl) (by kernel_rfl) (by kernel_rfl) (fun _ _ _ h => h) (Or.inl ⟨by rfl, fun w hSw => by (try dsimp only at hSw); go_simp⟩) (by assumption) ?_
        simp only [Act.put, List.setIfInBounds_toArray, List.set_cons_zero, List.set_cons_succ]
        refine wpAnyH_take (i := 2) (oi := { dst := some 61, op := Op.load 23 (Operand.tmp 5), type := _, pos := _, after := _, guard := some (1, true) }) (v := undef) rfl (by kernel_rfl) (by kernel_rfl) (by kernel_rfl) (fun _ _ _ h => h) (Or.inr ⟨by rfl, rfl⟩) (by assumption) ?_
        simp only [Act.put, List.setIfInBounds_toArray, List.set_cons_zero, List.set_cons_succ]
        refine wpAnyH_take (i := 3) (oi := { dst := some 62, op := Op.move (Operand.tmp 12), type := _, pos := _, after := _, guard := some (1, true) }) (v := undef) rfl (by kernel_rfl) (by kernel_rfl) (by kernel_rfl) (fun _ _ _ h => h) (Or.inr ⟨by rfl, rfl⟩) (by assumption) ?_
        simp only [Act.put, List.setIfInBounds_toArray, List.set_cons_zero, List.set_cons_succ]
        refine wpAnyH_take (i := 4) (oi := { dst := some 63, op := Op.fieldAddr 47 (Operand.tmp 9) 3, type := _, pos := _, after := _, guard := some (1, true) }) (v := undef) rfl (by kernel_rfl) (by kernel_rfl) (by kernel_rfl) (fun _ _ _ h => h) (Or.inr ⟨by rfl, rfl⟩) (by assumption) ?_
        simp only [Act.put, List.setIfInBounds_toArray, List.set_cons_zero, List.set_cons_succ]
        refine wpAnyH_take (i := 5) (oi := { dst := some 64, op := Op.indexAddr 45 (Operand.tmp 63) (Operand.tmp 62), type := _, pos := _, after := _, guard := some (1, true) }) (v := undef) rfl (by kernel_rfl) (by kernel_rfl) (by kernel_rfl) (fun _ _ _ h => h) (Or.inr ⟨by rfl, rfl⟩) (by assumption) ?_
        simp only [Act.put, List.setIfInBounds_toArray, List.set_cons_zero, List.set_cons_succ]
        refine wpAnyH_take (i := 6) (oi := { dst := some 65, op := Op.fieldAddr 44 (Operand.tmp 64) 0, type := _, pos := _, after := _, guard := some (1, true) }) (v := undef) rfl (by kernel_rfl) (by kernel_rfl) (by kernel_rfl) (fun _ _ _ h => h) (Or.inr ⟨by rfl, rfl⟩) (by assumption) ?_
        simp only [Act.put, List.setIfInBounds_toArray, List.set_cons_zero, List.set_cons_succ]
        refine wpAnyH_take (i := 7) (oi := { dst := some 66, op := Op.load 23 (Operand.tmp 65), type := _, pos := _, after := _, guard := some (1, true) }) (v := undef) rfl (by kernel_rfl) (by kernel_rfl) (by kernel_rfl) (fun _ _ _ h => h) (Or.inr ⟨by rfl, rfl⟩) (by assumption) ?_
        simp only [Act.put, List.setIfInBounds_toArray, List.set_cons_zero, List.set_cons_succ]
        refine wpAnyH_take (i := 8) (oi := { dst := some 67, op := Op.call { callee := Callee.value (Operand.func 21), args := #[(Operand.tmp 61), (Operand.tmp 66)], argTypes := #[23, 23] }, type := _, pos := _, after := _, guard := some (1, true) }) (v := undef) rfl (by kernel_rfl) (by kernel_rfl) (by kernel_rfl) (fun _ _ _ h => h) (Or.inr ⟨by rfl, rfl⟩) (by assumption) ?_
        simp only [Act.put, List.setIfInBounds_toArray, List.set_cons_zero, List.set_cons_succ]
        refine wpAnyH_take (i := 9) (oi := { dst := some 68, op := Op.pick (Operand.tmp 60) (Operand.tmp 67) (Operand.const (Value.bool false)), type := _, pos := _, after := _, guard := none }) (v := .bool false) rfl (by kernel_rfl) (by kernel_rfl) (by kernel_rfl) (fun _ _ _ h => h) (Or.inl ⟨by rfl, fun w hSw => by (try dsimp only at hSw); go_simp⟩) (by assumption) ?_
        simp only [Act.put, List.setIfInBounds_toArray, List.set_cons_zero, List.set_cons_succ]
        refine wpAnyH_take (i := 10) (oi := { dst := some 11, op := Op.assign (Operand.tmp 68), type := _, pos := _, after := _, guard := none }) (v := .bool false) rfl (by kernel_rfl) (by kernel_rfl) (by kernel_rfl) (fun _ _ _ h => h) (Or.inl ⟨by rfl, fun w hSw => by (try dsimp only at hSw); go_simp⟩) (by assumption) ?_
        simp only [Act.put, List.setIfInBounds_toArray, List.set_cons_zero, List.set_cons_succ]
        refine wpAnyH_done (by kernel_rfl) ?_ _
        obtain ⟨hV, hN⟩ := hHeld
        go_wp2_with fail
        rw [rounds_succ]
        go_upto_region 18 with (fail)
        have hS0 : SV w wd.drew Y M P n p k ∧ MA wd.drew D n := ⟨hV.later (drew_below _), hN.later (drew_below _)⟩
        clear hV hN
        refine wp_region_held_drew (S := fun W => SV w W Y M P n p k ∧ MA W D n) (by kernel_rfl) hS0 (fun hHeld => ?_)
        clear hS0
        generalize wd.drew = wd at *
        refine wpAnyH_take (i := 0) (oi := { dst := some 59, op := Op.move (Operand.tmp 11), type := _, pos := _, after := _, guard := none }) (v := .bool false) rfl (by kernel_rfl) (by kernel_rfl) (by kernel_rfl) (fun _ _ _ h => h) (Or.inl ⟨by rfl, fun w hSw => by (try dsimp only at hSw); go_simp⟩) (by assumption) ?_
        simp only [Act.put, List.setIfInBounds_toArray, List.set_cons_zero, List.set_cons_succ]
        refine wpAnyH_take (i := 1) (oi := { dst := some 60, op := Op.move (Operand.tmp 59), type := _, pos := _, after := _, guard := none }) (v := .bool false) rfl (by kernel_rfl) (by kernel_rfl) (by kernel_rfl) (fun _ _ _ h => h) (Or.inl ⟨by rfl, fun w hSw => by (try dsimp only at hSw); go_simp⟩) (by assumption) ?_
        simp only [Act.put, List.setIfInBounds_toArray, List.set_cons_zero, List.set_cons_succ]
        refine wpAnyH_take (i := 2) (oi := { dst := some 61, op := Op.load 23 (Operand.tmp 5), type := _, pos := _, after := _, guard := some (1, true) }) (v := undef) rfl (by kernel_rfl) (by kernel_rfl) (by kernel_rfl) (fun _ _ _ h => h) (Or.inr ⟨by rfl, rfl⟩) (by assumption) ?_
        simp only [Act.put, List.setIfInBounds_toArray, List.set_cons_zero, List.set_cons_succ]
        refine wpAnyH_take (i := 3) (oi := { dst := some 62, op := Op.move (Operand.tmp 12), type := _, pos := _, after := _, guard := some (1, true) }) (v := undef) rfl (by kernel_rfl) (by kernel_rfl) (by kernel_rfl) (fun _ _ _ h => h) (Or.inr ⟨by rfl, rfl⟩) (by assumption) ?_
        simp only [Act.put, List.setIfInBounds_toArray, List.set_cons_zero, List.set_cons_succ]
        refine wpAnyH_take (i := 4) (oi := { dst := some 63, op := Op.fieldAddr 47 (Operand.tmp 9) 3, type := _, pos := _, after := _, guard := some (1, true) }) (v := undef) rfl (by kernel_rfl) (by kernel_rfl) (by kernel_rfl) (fun _ _ _ h => h) (Or.inr ⟨by rfl, rfl⟩) (by assumption) ?_
        simp only [Act.put, List.setIfInBounds_toArray, List.set_cons_zero, List.set_cons_succ]
        refine wpAnyH_take (i := 5) (oi := { dst := some 64, op := Op.indexAddr 45 (Operand.tmp 63) (Operand.tmp 62), type := _, pos := _, after := _, guard := some (1, true) }) (v := undef) rfl (by kernel_rfl) (by kernel_rfl) (by kernel_rfl) (fun _ _ _ h => h) (Or.inr ⟨by rfl, rfl⟩) (by assumption) ?_
        simp only [Act.put, List.setIfInBounds_toArray, List.set_cons_zero, List.set_cons_succ]
        refine wpAnyH_take (i := 6) (oi := { dst := some 65, op := Op.fieldAddr 44 (Operand.tmp 64) 0, type := _, pos := _, after := _, guard := some (1, true) }) (v := undef) rfl (by kernel_rfl) (by kernel_rfl) (by kernel_rfl) (fun _ _ _ h => h) (Or.inr ⟨by rfl, rfl⟩) (by assumption) ?_
        simp only [Act.put, List.setIfInBounds_toArray, List.set_cons_zero, List.set_cons_succ]
        refine wpAnyH_take (i := 7) (oi := { dst := some 66, op := Op.load 23 (Operand.tmp 65), type := _, pos := _, after := _, guard := some (1, true) }) (v := undef) rfl (by kernel_rfl) (by kernel_rfl) (by kernel_rfl) (fun _ _ _ h => h) (Or.inr ⟨by rfl, rfl⟩) (by assumption) ?_
        simp only [Act.put, List.setIfInBounds_toArray, List.set_cons_zero, List.set_cons_succ]
        refine wpAnyH_take (i := 8) (oi := { dst := some 67, op := Op.call { callee := Callee.value (Operand.func 21), args := #[(Operand.tmp 61), (Operand.tmp 66)], argTypes := #[23, 23] }, type := _, pos := _, after := _, guard := some (1, true) }) (v := undef) rfl (by kernel_rfl) (by kernel_rfl) (by kernel_rfl) (fun _ _ _ h => h) (Or.inr ⟨by rfl, rfl⟩) (by assumption) ?_
        simp only [Act.put, List.setIfInBounds_toArray, List.set_cons_zero, List.set_cons_succ]
        refine wpAnyH_take (i := 9) (oi := { dst := some 68, op := Op.pick (Operand.tmp 60) (Operand.tmp 67) (Operand.const (Value.bool false)), type := _, pos := _, after := _, guard := none }) (v := .bool false) rfl (by kernel_rfl) (by kernel_rfl) (by kernel_rfl) (fun _ _ _ h => h) (Or.inl ⟨by rfl, fun w hSw => by (try dsimp only at hSw); go_simp⟩) (by assumption) ?_
        simp only [Act.put, List.setIfInBounds_toArray, List.set_cons_zero, List.set_cons_succ]
        refine wpAnyH_take (i := 10) (oi := { dst := some 11, op := Op.assign (Operand.tmp 68), type := _, pos := _, after := _, guard := none }) (v := .bool false) rfl (by kernel_rfl) (by kernel_rfl) (by kernel_rfl) (fun _ _ _ h => h) (Or.inl ⟨by rfl, fun w hSw => by (try dsimp only at hSw); go_simp⟩) (by assumption) ?_
        simp only [Act.put, List.setIfInBounds_toArray, List.set_cons_zero, List.set_cons_succ]
        refine wpAnyH_done (by kernel_rfl) ?_ _
        obtain ⟨hV, hN⟩ := hHeld
        go_wp2_with fail
        rw [rounds_succ]
        have HB : Hid (Below w.heap.size w wd) := hV.bel
        have hM := hV.mb
        clear hV
        go_upto_region 19 with (fail)
        go_wp2_with (first | (refine ldMb hN HN.out _ rfl rfl rfl ?_) | (refine ldMb hM HN.out _ rfl rfl rfl ?_) | (refine eqM HN.out HN.out HNN.out _ _ rfl rfl rfl rfl ?_))
        go_ret
        exact ⟨rfl, HB.out⟩
  · have d0 : (caE f0 x != 0) = true := by simpa using hce
    have HB : Hid (Below w.heap.size w w4) := hS4.bel
    clear hce hS4 hM4
    generalize caE f0 x = ce at *
    go_wp2_with fail
    go_ret
    exact ⟨rfl, HB.out⟩
theorem own : ownKnob Tryz.prog.godebug = none := by kernel_rfl
theorem laidOut : laidOutB Tryz.prog = true := by kernel_rfl
set_option maxRecDepth 100000 in
theorem lifted (os : Os) (started : os.Started) (H : Type) (enc : TypeId × Value → H) :
    ReturnsInHanded {} Tryz.checked os 7 .any (Rows.recoveryStrangeSpec.pre6 enc Tryz.prog Tryz.f7 Rows.recoveryStrangeRow.domain false) (Rows.recoveryStrangeSpec.post enc Tryz.prog Tryz.f7 false true false false) := by
  refine returnsInHanded_of_change (C := Tryz.checked) own started (by kernel_rfl) Tryz.func7
    (ChangeSpec.witness6 (enc := enc) (C := Tryz.checked) false ⟨#[], #[.agg (List.replicate 236 (Value.int .i64 0)).toArray, .int .i64 0, .agg #[.int .i64 0, .int .i64 0]], []⟩ 8 (by kernel_rfl) (by kernel_rfl) (by kernel_rfl) (by kernel_rfl)) ?_
  intro W base args ds gs before hval0 hW hcnd _
  have hval : ∀ (j : Nat) t v, Tryz.f7.params[j]? = some t → args[j]? = some v → Value.okWide Tryz.prog W .any base t v := hval0
  have hW' := hW
  obtain ⟨p, q, hA0, hV, rfl, hfz, hnd⟩ := hW
  have hA : DataW.TrodAll enc Tryz.prog W 0 (fun _ => true) true Tryz.f7.params.toList args.toList ds p := hA0
  rw [Tryz.params7] at hA hval
  obtain ⟨v0, vs0, d0, ds0, p0, q0, hargs, rfl, rfl, h0, r0⟩ := trodAll_cons hA
  obtain ⟨v1, vs1, d1, ds1, p1, q1, rfl, rfl, rfl, h1, r1⟩ := trodAll_cons r0
  obtain ⟨v2, vs2, d2, ds2, p2, q2, rfl, rfl, rfl, h2, r2⟩ := trodAll_cons r1
  obtain ⟨rfl, rfl, rfl⟩ := trodAll_nil r2
  obtain rfl : args = #[v0, v1, v2] := by cases args; simp_all
  obtain ⟨rfl, rfl⟩ := trodVars_none hV
  have k0 := h0
  have lt0 : ∀ x ∈ p0, x.block < W.heap.size := by obtain ⟨m, hm⟩ := k0; exact DataW.trod_lt m _ _ _ hm
  obtain ⟨f0, rfl⟩ := open_tr (hval 0 42 v0 rfl rfl) h0
  obtain ⟨a1, rfl, rfl, rfl, w1⟩ := open_int Tryz.underlying3 (hval 1 3 v1 rfl rfl) h1
  have k2 := h2
  have lt2 : ∀ x ∈ p2, x.block < W.heap.size := by obtain ⟨m, hm⟩ := k2; exact DataW.trod_lt m _ _ _ hm
  obtain ⟨a2_0, a2_1, rfl, w2_0, w2_1⟩ := open_pair Tryz.underlying23 (by kernel_rfl) (by kernel_rfl) rfl rfl Tryz.underlying3 (hval 2 23 v2 rfl rfl) h2
  clear hA0 hval0
  refine (walk f0 a1 a2_0 a2_1 w1 w2_0 w2_1 W).mono fun e W' ⟨he, bel⟩ => ?_
  subst he
  exact ⟨_, rfl, _, _, _, [], _, [], hW', trodAll_mk1 (shut_bool Tryz.underlying4 _), (trodAll_cons_mk (Below.trod laidOut (by kernel_rfl) (of_decide_eq_true (by kernel_rfl)) k0 bel lt0) (trodAll_cons_mk (shut_int Tryz.underlying3 w1) (trodAll_cons_mk (Below.trod laidOut (by kernel_rfl) (of_decide_eq_true (by kernel_rfl)) k2 bel lt2) trodAll_mk0))), rfl, bel.frame _, fun h => by cases h⟩
theorem over : Rows.recoveryStrangeRow.holds Tryz.pinned (OpenSpec.ofChange Rows.recoveryStrangeSpec) :=
  OpenClaim.holds_of_wide 7 Tryz.f7 rfl rfl rfl rfl rfl rfl rfl ⟨rfl, rfl, rfl, rfl, rfl⟩ rfl rfl rfl rfl rfl (by kernel_rfl) Tryz.func7 (by kernel_rfl)
    (of_decide_eq_true (by kernel_rfl)) (by unfold Func.isWrapper; first | (rw [if_pos (by decide +kernel)]; kernel_rfl) | (rw [if_neg (by decide +kernel)]; exact ⟨rfl, rfl⟩))
    (fun os started H enc _ => lifted os started H enc)
end Go.Proofs.YtdghibimelhgjaaGreat.recoveryStrange
namespace Go.Proofs.YtdghibimelhgjaaGreat
theorem recoveryStrange_holds : Rows.RecoveryStrangeSaid := recoveryStrange.over
#print axioms recoveryStrange_holds
end Go.Proofs.YtdghibimelhgjaaGreat
