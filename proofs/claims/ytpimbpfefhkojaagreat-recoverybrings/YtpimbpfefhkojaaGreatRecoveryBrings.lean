/- For any tree, any script, any person, with or without its path: whoever is still on by the same entry is brought to the last tree by one request and one reply. No conditions. MADE by wip/mk_rbr.py. -/
import Derived.Test.YtpimbpfefhkojaaGreatRows
import Derived.Test.YtpimbpfefhkojaaGreatRvI
import Derived.Test.YtpimbpfefhkojaaGreatRvJ2
import Derived.BigQuiet
import Derived.OpenShut
import Derived.SizedLaws
import Derived.ChangeMaps5
namespace Go.Proofs.YtpimbpfefhkojaaGreat.recoveryBrings
open Go.ChangeShapes Go.WideShapes Go.ChangeAt Go.RowKit Go.Maps
open Go.Proofs.YtpimbpfefhkojaaGreat.Mb Go.Proofs.YtpimbpfefhkojaaGreat.Rv
open Rt (Ky KyAt zK gv gd)
open Rs (tkn fnd En RdI eqE)
open Wi (ldM ra_of zP bxl)
set_option linter.unusedVariables false
set_option linter.unusedSimpArgs false

structure TC (t : Tr) (c : Array Value) : Prop where
  out : tcs t = c
structure SB (w W : World) (B M T : Nat) (t : Tr) (v : Value) (x : Int) (ba : Bool) (bh : Int) (m : Mb) (u : Tr) : Prop where
  lg : LAt W B t v x ba bh
  mb : MA W M m
  tr : TrAt W T u
  bel : Below w.heap.size w W
  gm : w.heap.size ≤ M
  gt : w.heap.size ≤ T
  n1 : B ≠ M
  n2 : B ≠ T
  n3 : M ≠ T
section
variable {w W W' : World} {B M T : Nat} {t : Tr} {v : Value} {x : Int} {ba : Bool} {bh : Int} {m m' : Mb} {u u' : Tr}
theorem SB.later (h : SB w W B M T t v x ba bh m u) (hb : Below W.heap.size W W') : SB w W' B M T t v x ba bh m u := ⟨h.lg.later hb, h.mb.later hb, h.tr.later hb, h.bel.trans (hb.mono h.bel.size), h.gm, h.gt, h.n1, h.n2, h.n3⟩
theorem SB.row (h : SB w W B M T t v x ba bh m u) (u' : Tr) : SB w (W.setRow T (tcs u')) B M T t v x ba bh m u' := ⟨(Rt.row_other h.n2 _).trans h.lg, (Rt.row_other h.n3 _).trans h.mb, h.tr.row u', Rt.setRow_below h.gt h.bel _, h.gm, h.gt, h.n1, h.n2, h.n3⟩
theorem SB.set (h : SB w W B M T t v x ba bh m u) {k : Nat} {z : Value} (hm : MA (W.setCell ⟨M, k, none⟩ z) M m') : SB w (W.setCell ⟨M, k, none⟩ z) B M T t v x ba bh m' u := ⟨(Rt.other_setCell h.n1 _ _).trans h.lg, hm, (Rt.other_setCell (Ne.symm h.n3) _ _).trans h.tr, h.bel.setCell (p := ⟨M, k, none⟩) h.gm z, h.gm, h.gt, h.n1, h.n2, h.n3⟩
end
theorem bare_row {W : World} {M : Nat} {m : Mb} (h : MA W M m) : MA (((((((W.setCell ⟨M, 11, none⟩ (.bool false)).setCell ⟨M, 5, none⟩ (.int .i64 0)).setCell ⟨M, 6, none⟩ (.int .i64 0)).setCell ⟨M, 7, none⟩ (.int .i64 0)).setCell ⟨M, 8, none⟩ (.int .i64 0)).setCell ⟨M, 9, none⟩ (.int .i64 0)).setCell ⟨M, 10, none⟩ (.int .i64 0)) M (bare m true) := by
  have h7 := Rt.row_setCell (Rt.row_setCell (Rt.row_setCell (Rt.row_setCell (Rt.row_setCell (Rt.row_setCell (Rt.row_setCell h 11 (.bool false)) 5 (.int .i64 0)) 6 (.int .i64 0)) 7 (.int .i64 0)) 8 (.int .i64 0)) 9 (.int .i64 0)) 10 (.int .i64 0)
  have e : (((((((mba m).setIfInBounds 11 (.bool false)).setIfInBounds 5 (.int .i64 0)).setIfInBounds 6 (.int .i64 0)).setIfInBounds 7 (.int .i64 0)).setIfInBounds 8 (.int .i64 0)).setIfInBounds 9 (.int .i64 0)).setIfInBounds 10 (.int .i64 0) = mba (bare m true) := by kernel_rfl
  rw [e] at h7
  exact h7
theorem o7 {W : World} {C M : Nat} (hne : C ≠ M) (a b c d e f g : Value) : (((((((W.setCell ⟨M, 11, none⟩ a).setCell ⟨M, 5, none⟩ b).setCell ⟨M, 6, none⟩ c).setCell ⟨M, 7, none⟩ d).setCell ⟨M, 8, none⟩ e).setCell ⟨M, 9, none⟩ f).setCell ⟨M, 10, none⟩ g).heap[C]? = W.heap[C]? := by
  rw [Rt.other_setCell hne, Rt.other_setCell hne, Rt.other_setCell hne, Rt.other_setCell hne, Rt.other_setCell hne, Rt.other_setCell hne, Rt.other_setCell hne]
theorem SB.bare {w W : World} {B M T : Nat} {t : Tr} {v : Value} {x : Int} {ba : Bool} {bh : Int} {m : Mb} {u : Tr} (h : SB w W B M T t v x ba bh m u) : SB w (((((((W.setCell ⟨M, 11, none⟩ (.bool false)).setCell ⟨M, 5, none⟩ (.int .i64 0)).setCell ⟨M, 6, none⟩ (.int .i64 0)).setCell ⟨M, 7, none⟩ (.int .i64 0)).setCell ⟨M, 8, none⟩ (.int .i64 0)).setCell ⟨M, 9, none⟩ (.int .i64 0)).setCell ⟨M, 10, none⟩ (.int .i64 0)) B M T t v x ba bh (bare m true) u :=
  ⟨(o7 h.n1 _ _ _ _ _ _ _).trans h.lg, bare_row h.mb, (o7 (Ne.symm h.n3) _ _ _ _ _ _ _).trans h.tr, ((((((h.bel.setCell (p := ⟨M, 11, none⟩) h.gm _).setCell (p := ⟨M, 5, none⟩) h.gm _).setCell (p := ⟨M, 6, none⟩) h.gm _).setCell (p := ⟨M, 7, none⟩) h.gm _).setCell (p := ⟨M, 8, none⟩) h.gm _).setCell (p := ⟨M, 9, none⟩) h.gm _).setCell (p := ⟨M, 10, none⟩) h.gm _, h.gm, h.gt, h.n1, h.n2, h.n3⟩
theorem neE_exec {w : World} {e d : En} {b : Bool} (hb : eqE e d = b) {o : Oper} {a : Act} {x y : Operand} (ho : o.op = .binOp .neq 27 x y 27) (hx : a.eval x = .agg #[.int .i64 e.who, .int .i64 e.bas, .int .i64 e.snc]) (hy : a.eval y = .agg #[.int .i64 d.who, .int .i64 d.bas, .int .i64 d.snc]) : (execOp a.eval o).run Tryz.prog w = .ok (.value (.bool (!b))) w := by
  subst hb
  have h3 := run_eqGuard_agg (P := Tryz.prog) w .neq 27 x y #[.int .i64 e.who, .int .i64 e.bas, .int .i64 e.snc] #[.int .i64 d.who, .int .i64 d.bas, .int .i64 d.snc] Tryz.eqGuardType27
  have h4 := run_neq_struct (P := Tryz.prog) w 27 #[.int .i64 e.who, .int .i64 e.bas, .int .i64 e.snc] #[.int .i64 d.who, .int .i64 d.bas, .int .i64 d.snc]
  rw [Rs.run_eqEn 9998] at h4
  simp [execOp, ho, hx, hy, h3, h4, Sem.run_bind, Result.andThen]
theorem an_on {t : Tr} {x e : Int} (h : anE t x e = 0) : caE t x = 0 := by
  unfold anE at h
  by_cases h1 : tck t = true
  · rw [if_pos h1] at h
    by_cases h2 : Wi.gW x = true
    · rw [if_pos h2] at h
      by_cases h3 : caE t x = 0
      · exact h3
      · rw [if_neg h3] at h; cases h
    · rw [if_neg h2] at h; cases h
  · rw [if_neg h1] at h; cases h
theorem ldC {ops : Array Oper} {rest : List Oper} {o : Oper} {a : Act} {w : World} {Q : Exit → Act → World → Prop} {B k : Nat} {v : Int} (h : w.cell? ⟨B, k, none⟩ = some (.int .i64 v)) (x : Operand) (ho : o.op = .load 3 x) (hx : a.eval x = .pointer (some ⟨B, k, none⟩)) (hw : Region.wanted o (yielded ops a.tmps) = true)
    (kk : wpList Tryz.prog ops Q rest (a.put o.dst (.int .i64 v)) w) : wpList Tryz.prog ops Q (o :: rest) a w := by
  refine rd_guard hw ?_ kk
  have hr : (Instr.loadAt 3 (.pointer (some ⟨B, k, none⟩))).run Tryz.prog w = .ok (.int .i64 v) w := by go_simp
  simp [execOp, ho, hx, hr, Result.andThen]
def setB (m : Mb) (b : Int) : Mb := ⟨m.who, m.slt, m.ep, m.lf, m.p0, m.p1, m.p2, m.has, m.out, b⟩
theorem setB_row {W : World} {M : Nat} {m : Mb} (h : MA W M m) (b : Int) : MA (W.setCell ⟨M, 13, none⟩ (.int .i64 b)) M (setB m b) := Rt.row_setCell h 13 (.int .i64 b)
def bhv (t : Tr) (b : Int) : Int := if t.ep < b ∧ b ≤ 200 then b else 0
theorem lag_eq (t : Tr) (s : Nat) (ba : Bool) (b : Int) : setB (bare (atS t s 0) ba) b = lagM t s ba b := by cases ba <;> rfl
theorem lag_eq0 (t : Tr) (s : Nat) (ba : Bool) : bare (atS t s 0) ba = lagM t s ba 0 := rfl
theorem tz_new (w : World) (t : Tr) (c : Array Value) (hc : tcs t = c) : TrAt ((w.alloc (.cells Tryz.zeroCells31 31)).setRow w.heap.size c) w.heap.size t := by subst hc; exact (TrAt.zero w).row t
set_option maxHeartbeats 4000000 in
set_option maxRecDepth 100000 in
theorem walk (f0 : Tr) (a0 : Option Addr) (c0 : Nat) (l0 : List (List Int × List Int)) (x0 : Int) (ba0 : Bool) (bh0 : Int) (w : World) (rd0 : Rv.RdB w a0 l0) (hl0 : l0.length * 48 ≤ 140737488351232) (hn0 : ∀ i, i < l0.length → (l0.getD i ([], [])).1.length * 8 ≤ 140737488351232 ∧ (l0.getD i ([], [])).2.length * 8 ≤ 140737488351232) :
    Calls Tryz.prog 3 #[.agg (lca f0 (.slice a0 l0.length c0) x0 ba0 bh0)] w fun e w' => e = .returned (.bool true) ∧ Below w.heap.size w w' := by
  have hli := lives16_any
  have hst := stand_r f0 x0
  have hL := LAt.new w f0 (.slice a0 l0.length c0) x0 ba0 bh0
  have hB := below_alloc w (.cells (lca f0 (.slice a0 l0.length c0) x0 ba0 bh0) 34)
  obtain ⟨ct, hct⟩ : ∃ c, tcs f0 = c := ⟨_, rfl⟩
  have HT : TC f0 ct := ⟨hct⟩
  simp only [hct] at hst
  clear hct
  obtain ⟨cl, hcl⟩ : ∃ c, lca f0 (.slice a0 l0.length c0) x0 ba0 bh0 = c := ⟨_, rfl⟩
  rw [hcl] at hL hB
  rw [hcl]
  clear hcl
  obtain ⟨cs, hcs⟩ : ∃ c, mba (Mb.stM f0 x0) = c := ⟨_, rfl⟩
  have HC : Hid (mba (Mb.stM f0 x0) = cs) := hcs
  simp only [hcs] at hst
  clear hcs
  have HRD : Hid (Rv.RdB w a0 l0) := rd0
  have HN0 : Hid (∀ i, i < l0.length → (l0.getD i ([], [])).1.length * 8 ≤ 140737488351232 ∧ (l0.getD i ([], [])).2.length * 8 ≤ 140737488351232) := hn0
  obtain ⟨NL, hNL⟩ : ∃ n, l0.length = n := ⟨_, rfl⟩
  have HNL : Hid (l0.length = NL) := hNL
  rw [hNL] at hL hl0
  clear rd0 hn0 hNL
  obtain ⟨v, hv⟩ : ∃ v, v = Value.slice a0 NL c0 := ⟨_, rfl⟩
  rw [← hv] at hL
  have HV : Hid (v = Value.slice a0 NL c0) := hv
  clear hv
  go_enter Tryz.func3, Tryz.ntmps3
  go_upto_region 1 with (fail)
  generalize w.alloc (.cells cl 34) = w1 at *
  have HB1 : Hid (Below w.heap.size w w1) := hB
  clear hB
  obtain ⟨B, hBe⟩ : ∃ B, w.heap.size = B := ⟨_, rfl⟩
  rw [hBe] at hL ⊢
  clear hBe
  go_wp2_with fail
  refine (hli _).mono ?_
  rintro r w2 ⟨rfl, hb2⟩
  have hL2 := hL.later hb2
  have HB2 : Hid (Below w.heap.size w w2) := Wi.Below.join HB1.out hb2
  obtain ⟨r0, r1, r2, r3⟩ := hL2.rest
  clear hb2 hli hL HB1 r0 r2 r3
  go_wp2_with (refine rdL hL2 HT.out _ rfl rfl rfl ?_)
  refine (hst _).mono ?_
  rintro r w3 ⟨rfl, hb3⟩
  have hL4 := (hL2.later hb3).later (below_alloc w3 (.cells cs 39))
  have hM4 := MA.new w3 (Mb.stM f0 x0)
  rw [HC.out] at hM4
  have HB3 : Hid (Below w.heap.size w w3) := Wi.Below.join HB2.out hb3
  have HB4 : Hid (Below w.heap.size w (w3.alloc (.cells cs 39))) := Wi.Below.plus HB3.out _
  have HGM : Hid (w.heap.size ≤ w3.heap.size) := HB3.out.size
  have HBM : Hid (B ≠ w3.heap.size) := Nat.ne_of_lt (Wi.row_lt (hL2.later hb3))
  clear hb3 hL2 hst r1 HB2 HB3
  go_upto_region 4 with (refine stMn (w := w3) HC.out rfl _ _ rfl rfl rfl ?_)
  generalize w3.alloc (.cells cs 39) = w4 at *
  generalize w3.heap.size = M at *
  by_cases hce : caE f0 x0 = 0
  · rw [hce]
    obtain ⟨htk, s, hs, _, hkk, hwx, hsm⟩ := on_at hce
    rw [hsm] at hM4
    have HFA : Hid (tck f0 = true ∧ s < 64 ∧ tkn (f0.ro s) = true ∧ (f0.ro s).who = x0) := ⟨htk, hs, hkk, hwx⟩
    clear hce htk hs hkk hwx hsm HC
    have HB5 : Hid (Below w.heap.size w ((w4.alloc (.cells Tryz.zeroCells31 31)).setRow w4.heap.size ct)) := Rt.setRow_below HB4.out.size (Wi.Below.plus HB4.out _) _
    have hS5 : SB w ((w4.alloc (.cells Tryz.zeroCells31 31)).setRow w4.heap.size ct) B M w4.heap.size f0 v x0 ba0 bh0 (atS f0 s 0) f0 :=
      ⟨(Rt.row_other (Nat.ne_of_lt (Wi.row_lt hL4)) _).trans (hL4.later (below_alloc _ _)), (Rt.row_other (Nat.ne_of_lt hM4.lt) _).trans (hM4.later (below_alloc _ _)), tz_new w4 f0 ct HT.out, HB5.out, HGM.out, HB4.out.size, HBM.out, Nat.ne_of_lt (Wi.row_lt hL4), Nat.ne_of_lt hM4.lt⟩
    have hz4 := TrAt.zero w4
    clear HB5 HGM HBM hM4
    go_upto_region 7 with (first | (refine rdL hL4 HT.out _ rfl rfl rfl ?_) | (refine stTc hz4 HT.out rfl _ _ rfl rfl rfl ?_))
    clear hL4 HB4 hz4
    generalize (w4.alloc (.cells Tryz.zeroCells31 31)).setRow w4.heap.size ct = w5 at *
    generalize w4.heap.size = T at *
    have r0 := hS5.lg.rest.1
    rw [HV.out] at r0
    go_wp2_with fail
    clear r0
    go_loopw [36] (fun y wx => ∃ k : Nat, k ≤ NL ∧ y = .int .i64 (k : Int) ∧ SB w wx B M T f0 v x0 ba0 bh0 (atS f0 s 0) (Rv.runT f0 (l0.take k))) (fun y _ => NL - (intOf y).toNat)
    case atStart => exact ⟨0, by omega, rfl, hS5⟩
    case round =>
      clear hS5
      obtain ⟨k, hk, rfl, hSr⟩ := hrel
      have HS : Hid (SB w wr B M T f0 v x0 ba0 bh0 (atS f0 s 0) (Rv.runT f0 (l0.take k))) := hSr
      clear hSr
      by_cases hkn : k < NL
      · as_aux_lemma =>
          have hkl : k < l0.length := by rw [HNL.out]; exact hkn
          obtain ⟨b, o, aL, cL, aJ, cJ, rfl, k0, k1, rL, rJ⟩ := (HRD.out.later HS.out.bel) k hkl
          have HTK : Hid (Rv.runT f0 (l0.take (k + 1)) = goT (Rv.runT f0 (l0.take k)) (l0.getD k ([], []))) := runT_take f0 l0 hkl
          have hlen := HN0.out k hkl
          obtain ⟨u, hu⟩ : ∃ u, Rv.runT f0 (l0.take k) = u := ⟨_, rfl⟩
          rw [hu] at HS HTK
          clear hu
          generalize l0.getD k ([], []) = bt at *
          obtain ⟨L, J⟩ := bt
          dsimp only at k0 k1 rL rJ hlen
          rw [← Nat.add_assoc] at k1
          have hnx := fun W (hW : Below wr.heap.size wr W) => next_r u aL aJ cL cJ L J W (by omega) (by omega) (rL.later hW) (rJ.later hW)
          have HNX : Hid _ := hnx
          clear hnx hlen rL rJ
          have i1 : (0 : Int) ≤ (k : Int) := by omega
          have i2 : (k : Int) < (NL : Int) := by omega
          obtain ⟨nL, hnL⟩ : ∃ n, L.length = n := ⟨_, rfl⟩
          obtain ⟨nJ, hnJ⟩ : ∃ n, J.length = n := ⟨_, rfl⟩
          rw [hnL] at k0 HNX
          rw [hnJ] at k1 HNX
          clear hnL hnJ
          have HS9 : Hid (SB w (wr.alloc (.cells #[.slice aL nL cL, .slice aJ nJ cJ] 45)) B M T f0 v x0 ba0 bh0 (atS f0 s 0) u) := HS.out.later (below_alloc _ _)
          have hbt := heap_alloc_last wr (.cells #[.slice aL nL cL, .slice aJ nJ cJ] 45)
          have HW9 : Hid (Below wr.heap.size wr (wr.alloc (.cells #[.slice aL nL cL, .slice aJ nJ cJ] 45))) := below_alloc _ _
          clear HS
          go_upto_region 10 with (fail)
          clear k0 k1
          generalize wr.alloc (.cells #[.slice aL nL cL, .slice aJ nJ cJ] 45) = w9 at *
          generalize wr.heap.size = Z at *
          have k0 := (cell_of_row w9 Z 0 _ _ _ hbt)
          have k1 := (cell_of_row w9 Z 1 _ _ _ hbt)
          simp only [List.size_toArray, List.length_cons, List.length_nil, Nat.zero_add, Nat.reduceAdd, List.getElem?_toArray, List.getElem?_cons_zero, List.getElem?_cons_succ] at k0 k1
          clear hbt
          have hnx := HNX.out w9 HW9.out
          obtain ⟨cu, hcu⟩ : ∃ c, tcs u = c := ⟨_, rfl⟩
          have HU : TC u cu := ⟨hcu⟩
          rw [hcu] at hnx
          clear hcu HNX HW9
          have hT9 := HS9.out.tr
          go_wp2_with (refine rdT hT9 HU.out _ rfl rfl rfl ?_)
          refine hnx.mono ?_
          rintro r w10 ⟨⟨a1, a2, a3, k1', k2', k3', rfl, hr⟩, hb10⟩
          have HS10 : Hid (SB w w10 B M T f0 v x0 ba0 bh0 (atS f0 s 0) u) := HS9.out.later hb10
          unfold rka
          obtain ⟨n, hn⟩ : ∃ n, pnT u L J = n := ⟨_, rfl⟩
          obtain ⟨pe, hpe⟩ : ∃ n, plE u L J = n := ⟨_, rfl⟩
          have HGO : Hid (goT u (L, J) = if pe = 0 then n else u) := by unfold Hid goT; dsimp only; rw [hpe, hn]
          rw [hn, hpe]
          obtain ⟨p, hp⟩ : ∃ p, pR u L J = p := ⟨_, rfl⟩
          rw [hp]
          obtain ⟨cn, hcn⟩ : ∃ c, tcs n = c := ⟨_, rfl⟩
          have HCN : TC n cn := ⟨hcn⟩
          rw [hcn]
          obtain ⟨t1, t2, W, hW, tT, tR, tB⟩ := two_boxes w10 n cn #[.int .i64 p.1, .slice a1 p.2.1.length k1', .slice a2 p.2.2.1.length k2', .slice a3 p.2.2.2.length k3'] hcn
          have HS11 : Hid (SB w W B M T f0 v x0 ba0 bh0 (atS f0 s 0) u) := HS10.out.later tB
          clear hr hn hpe hp hcn HS9 HS10 hT9 hnx hb10 k0 k1
          go_upto_region 11 with (first | (refine stTc t1 HCN.out rfl _ _ rfl rfl rfl ?_) | (refine stRw infoRk (cs := rkz) rkz_size t2 _ rfl (rk_one _ _ _ _ _ _ _ _ _ _) rfl _ _ rfl rfl rfl ?_))
          clear t1 t2 hW tR tB
          generalize w10.heap.size = N at *
          rw [HGO.out] at HTK
          clear HGO
          have hN3 := hl0
          by_cases hp0 : pe = 0
          · subst hp0
            rw [if_pos rfl] at HTK
            have hT11 := HS11.out.tr
            have HS12 : Hid (SB w (W.setRow T cn) B M T f0 v x0 ba0 bh0 (atS f0 s 0) n) := by have h := HS11.out.row n; rw [HCN.out] at h; exact h
            clear HS11
            go_upto_region 13 with (first | (refine rdT tT HCN.out _ rfl rfl rfl ?_) | (refine stTc hT11 HCN.out rfl _ _ rfl rfl rfl ?_))
            clear hT11 tT
            generalize W.setRow T cn = w13 at *
            go_wp2_with fail
            go_roundw
            case rel => exact ⟨k + 1, by omega, by go_num, by rw [HTK.out]; exact HS12.out⟩
            case measure => simp [intOf]; omega
          · rw [if_neg hp0] at HTK
            have d1 : (pe == 0) = false := by simpa using hp0
            clear tT
            go_upto_region 13 with (fail)
            go_wp2_with fail
            go_roundw
            case rel => exact ⟨k + 1, by omega, by go_num, by rw [HTK.out]; exact HS11.out⟩
            case measure => simp [intOf]; omega
      · obtain rfl : k = NL := by omega
        have hdk : decide ((k : Int) < (k : Int)) = false := by simp
        have hS6 : SB w wr B M T f0 v x0 ba0 bh0 (atS f0 s 0) (Rv.runT f0 l0) := by
          have h := HS.out
          rw [List.take_of_length_le (by rw [HNL.out]; exact Nat.le_refl _)] at h
          exact h
        clear HS hkn hk
        have HFR : Hid (tck (Rv.runT f0 l0) = true ∧ f0.ep ≤ (Rv.runT f0 l0).ep) := runT_ok l0 HFA.out.1
        generalize Rv.runT f0 l0 = u at *
        clear HRD HN0 hl0 HNL
        obtain ⟨_, _, r2, _⟩ := hS6.lg.rest
        go_upto_if 52 with (fail)
        clear r2 hdk
        go_cut [3] (fun s3 wx => s3 = .pointer (some ⟨M, 0, none⟩) ∧ SB w wx B M T f0 v x0 ba0 bh0 (bare (atS f0 s 0) ba0) u)
        case first =>
          cases ba0 with
          | false =>
            go_wp2_with fail
            go_meet
            case rel => exact ⟨rfl, hS6⟩
          | true =>
            have z11 := hS6.mb.has
            obtain ⟨⟨z5, z6⟩, ⟨z7, z8⟩, z9, z10⟩ := hS6.mb.key
            have f5 := hS6.mb.fr 5
            have f6 := hS6.mb.fr 6
            have f7 := hS6.mb.fr 7
            have f8 := hS6.mb.fr 8
            have f9 := hS6.mb.fr 9
            have f10 := hS6.mb.fr 10
            have f11 := hS6.mb.fr 11
            have HS7 : Hid _ := hS6.bare
            clear hS6
            go_wp2_with fail
            go_meet
            case rel => exact ⟨rfl, HS7.out⟩
        case rest =>
          as_aux_lemma =>
            obtain ⟨rfl, hS8⟩ := hcut
            clear hS6
            have HEP : Hid ((bare (atS f0 s 0) ba0).ep = f0.ep) := lag_ep f0 s ba0 0
            obtain ⟨b, hb, HLG, HBB⟩ : ∃ b : Int, b = bhv f0 bh0 ∧ (setB (bare (atS f0 s 0) ba0) b = lagM f0 s ba0 b) ∧ (b = 0 ∨ (f0.ep < b ∧ b ≤ 200)) := ⟨_, rfl, lag_eq _ _ _ _, by unfold bhv; split <;> simp_all⟩
            have HB0 : Hid (b = if f0.ep < bh0 ∧ bh0 ≤ 200 then bh0 else 0) := hb
            have HL0 : Hid (bare (atS f0 s 0) ba0 = lagM f0 s ba0 0) := rfl
            have HLG : Hid _ := HLG
            have HBB : Hid _ := HBB
            clear hb
            obtain ⟨_, _, _, r3⟩ := hS8.lg.rest
            have c2 := hS8.mb.ep
            rw [HEP.out] at c2
            clear HEP
            have HS8 : Hid (SB w wc B M T f0 v x0 ba0 bh0 (bare (atS f0 s 0) ba0) u) := hS8
            clear hS8
            go_upto_region 16 with (fail)
            go_cut [65] (fun s65 wx => s65 = .bool (decide (f0.ep < bh0 ∧ bh0 ≤ 200)) ∧ SB w wx B M T f0 v x0 ba0 bh0 (bare (atS f0 s 0) ba0) u)
            case first =>
              generalize f0.ep = te at *
              by_cases q1 : te < bh0
              · have d1 : decide (te < bh0) = true := decide_eq_true q1
                by_cases q2 : bh0 ≤ 200
                · have d2 : decide (bh0 ≤ 200) = true := decide_eq_true q2
                  have HD : Hid (decide (te < bh0 ∧ bh0 ≤ 200) = true) := decide_eq_true ⟨q1, q2⟩
                  clear q1 q2
                  go_wp2_with fail
                  go_meet
                  case rel => exact ⟨by rw [HD.out], HS8.out⟩
                · have d2 : decide (bh0 ≤ 200) = false := decide_eq_false q2
                  have HD : Hid (decide (te < bh0 ∧ bh0 ≤ 200) = false) := decide_eq_false (fun h => q2 h.2)
                  clear q1 q2
                  go_wp2_with fail
                  go_meet
                  case rel => exact ⟨by rw [HD.out], HS8.out⟩
              · have d1 : decide (te < bh0) = false := decide_eq_false q1
                have HD : Hid (decide (te < bh0 ∧ bh0 ≤ 200) = false) := decide_eq_false (fun h => q1 h.1)
                clear q1
                go_wp2_with fail
                go_meet
                case rel => exact ⟨by rw [HD.out], HS8.out⟩
            case rest =>
              as_aux_lemma =>
                obtain ⟨rfl, hS9⟩ := hcut
                clear r3 c2 HS8
                go_upto_if 65 with (fail)
                go_cut [3] (fun s3 wx => s3 = .pointer (some ⟨M, 0, none⟩) ∧ SB w wx B M T f0 v x0 ba0 bh0 (lagM f0 s ba0 b) u)
                case first =>
                  by_cases q : f0.ep < bh0 ∧ bh0 ≤ 200
                  · rw [decide_eq_true q]
                    have hbq : b = bh0 := by rw [HB0.out, if_pos q]
                    have e : setB (bare (atS f0 s 0) ba0) bh0 = lagM f0 s ba0 b := by rw [hbq]; exact lag_eq _ _ _ _
                    obtain ⟨_, _, _, r3⟩ := hS9.lg.rest
                    have z13 := hS9.mb.bh
                    have f13 := hS9.mb.fr 13
                    have hS10 := hS9.set (setB_row hS9.mb bh0)
                    rw [e] at hS10
                    have HS10 : Hid _ := hS10
                    clear e hS10 hS9 q hbq
                    go_wp2_with fail
                    go_meet
                    case rel => exact ⟨rfl, HS10.out⟩
                  · rw [decide_eq_false q]
                    have hbq : b = 0 := by rw [HB0.out, if_neg q]
                    have HS10 : Hid (SB w wc B M T f0 v x0 ba0 bh0 (lagM f0 s ba0 b) u) := by unfold Hid; rw [hbq]; exact hS9
                    clear hS9 q hbq
                    go_wp2_with fail
                    go_meet
                    case rel => exact ⟨rfl, HS10.out⟩
                case rest =>
                  as_aux_lemma =>
                    obtain ⟨rfl, hS10⟩ := hcut
                    clear hS9 HB0 HL0 HLG HV
                    have HSAME : Hid (u.ro s = f0.ro s → anE u x0 f0.ep = 0 ∧ anP u x0 f0.ep = rpOf (atS u s 0)) := fun he => by
                      have h := an_at (t := u) HFR.out.1 HFA.out.2.1 (by rw [he]; exact HFA.out.2.2.1) (atS_sat HFA.out.1 HFA.out.2.1 HFA.out.2.2.1 (b := 0) (.inl rfl)).ep.1 HFR.out.2
                      rw [he, HFA.out.2.2.2] at h
                      exact h
                    have HDIFF : Hid (anE u x0 f0.ep = 0 → ∃ s' : Nat, s' < 64 ∧ (u.ro s').who = x0 ∧ anP u x0 f0.ep = rpOf (atS u s' 0)) := fun h0 => by
                      obtain ⟨_, s', hs', _, _, hw', hm'⟩ := on_at (an_on h0)
                      exact ⟨s', hs', hw', by rw [anP_yes h0, hm']⟩
                    have hask := ask_any (lagM f0 s ba0 b)
                    unfold AskA akW akP at hask
                    rw [lag_hs HFA.out.1 HFA.out.2.1 HFA.out.2.2.1 ba0 HBB.out, if_pos rfl, if_pos rfl, lag_who, lag_ep, HFA.out.2.2.2] at hask
                    unfold rqa at hask
                    have han := answer_any u x0 f0.ep
                    unfold AnA at han
                    unfold rqa at han
                    obtain ⟨p, hp⟩ : ∃ p, anP u x0 f0.ep = p := ⟨_, rfl⟩
                    obtain ⟨pe, hpe⟩ : ∃ p, anE u x0 f0.ep = p := ⟨_, rfl⟩
                    rw [hp, hpe] at HSAME HDIFF
                    simp only [hp, hpe] at han
                    clear hp hpe
                    obtain ⟨cp, hcp⟩ : ∃ c, rpa p = c := ⟨_, rfl⟩
                    have HP : Hid (rpa p = cp) := hcp
                    simp only [hcp] at han
                    clear hcp
                    obtain ⟨cu, hcu⟩ : ∃ c, tcs u = c := ⟨_, rfl⟩
                    have HU : TC u cu := ⟨hcu⟩
                    simp only [hcu] at han
                    clear hcu
                    obtain ⟨cm, hcm⟩ : ∃ c, mba (lagM f0 s ba0 b) = c := ⟨_, rfl⟩
                    have HM : Hid (mba (lagM f0 s ba0 b) = cm) := hcm
                    simp only [hcm] at hask
                    clear hcm
                    have hM10 := hS10.mb
                    go_wp2_with (refine ldMb hM10 HM.out _ rfl rfl rfl ?_)
                    refine (hask _).mono ?_
                    rintro r w11 ⟨rfl, hb11⟩
                    have hS12 := (hS10.later hb11).later (below_alloc w11 (.cells #[.int .i64 x0, .int .i64 f0.ep] 53))
                    have hq12 := QAt.new w11 x0 f0.ep
                    clear hb11 hS10 hask hM10
                    go_upto_region 19 with (fail)
                    generalize w11.alloc (.cells #[.int .i64 x0, .int .i64 f0.ep] 53) = w12 at *
                    generalize w11.heap.size = Q at *
                    obtain ⟨q0, q1⟩ := hq12.cells
                    have hT12 := hS12.tr
                    clear hq12
                    go_wp2_with (refine rdT hT12 HU.out _ rfl rfl rfl ?_)
                    refine (han _).mono ?_
                    rintro r w13 ⟨rfl, hb13⟩
                    have hS14 := (hS12.later hb13).later (below_alloc w13 (.cells (rpa p) 60))
                    have hP14 := RA.new w13 p
                    clear hb13 hS12 han q0 q1 hT12
                    go_upto_region 20 with (refine stRpn (w := w13) zP p rfl HP.out rfl _ _ rfl rfl rfl ?_)
                    generalize w13.alloc (.cells (rpa p) 60) = w14 at *
                    generalize w13.heap.size = P at *
                    go_upto_region 22 with (fail)
                    have HE : Hid (∀ W, SB w W B M T f0 v x0 ba0 bh0 (lagM f0 s ba0 b) u → W.rangeAt T (44 + s * 3) [.int .i64 (u.ro s).who, .int .i64 (u.ro s).bas, .int .i64 (u.ro s).snc] ∧ W.rangeAt B (44 + s * 3) [.int .i64 (f0.ro s).who, .int .i64 (f0.ro s).bas, .int .i64 (f0.ro s).snc] ∧ W.cell? ⟨M, 1, none⟩ = some (.int .i64 (s : Int))) := fun W h => by
                      obtain ⟨e0, e1, e2⟩ := h.tr.ent s HFA.out.2.1
                      obtain ⟨g0, g1, g2⟩ := h.lg.ent s HFA.out.2.1
                      have hsl := h.mb.slt
                      rw [lag_slt] at hsl
                      exact ⟨range3 e0 e1 e2, range3 g0 g1 g2, hsl⟩
                    have i1 : (0 : Int) ≤ (s : Int) := by omega
                    have i2 : (s : Int) < 64 := by have := HFA.out.2.1; omega
                    obtain ⟨bq, hbq⟩ : ∃ b, eqE (u.ro s) (f0.ro s) = b := ⟨_, rfl⟩
                    have HBQ : Hid (eqE (u.ro s) (f0.ro s) = bq) := hbq
                    clear hbq
                    go_cut [93] (fun s93 wx => s93 = .bool (!bq) ∧ SB w wx B M T f0 v x0 ba0 bh0 (lagM f0 s ba0 b) u ∧ RA wx P p)
                    case first =>
                      have hS0 : SB w w14.drew B M T f0 v x0 ba0 bh0 (lagM f0 s ba0 b) u ∧ RA w14.drew P p := ⟨hS14.later (drew_below _), hP14.later (drew_below _)⟩
                      clear hS14 hP14
                      refine wp_region_held_drew (S := fun W => SB w W B M T f0 v x0 ba0 bh0 (lagM f0 s ba0 b) u ∧ RA W P p) (by kernel_rfl) hS0 (fun hHeld => ?_)
                      clear hS0
                      generalize w14.drew = wd at *
                      refine wpAnyH_take (i := 0) (oi := { dst := some 82, op := Op.fieldAddr 39 (Operand.tmp 3) 1, type := _, pos := _, after := _, guard := none }) (v := .pointer (some ⟨M, 1, none⟩)) rfl (by kernel_rfl) (by kernel_rfl) (by kernel_rfl) (fun _ _ _ h => h) (Or.inl ⟨by rfl, fun w hSw => by (try dsimp only at hSw); go_simp⟩) (by assumption) ?_
                      simp only [Act.put, List.setIfInBounds_toArray, List.set_cons_zero, List.set_cons_succ]
                      refine wpAnyH_take (i := 1) (oi := { dst := some 83, op := Op.load 3 (Operand.tmp 82), type := _, pos := _, after := _, guard := none }) (v := .int .i64 (s : Int)) rfl (by kernel_rfl) (by kernel_rfl) (by kernel_rfl) (fun _ _ _ h => h) (Or.inl ⟨by rfl, fun w hSw => by have h := (HE.out _ hSw.1).2.2; clear hSw; go_simp⟩) (by assumption) ?_
                      simp only [Act.put, List.setIfInBounds_toArray, List.set_cons_zero, List.set_cons_succ]
                      refine wpAnyH_take (i := 2) (oi := { dst := some 84, op := Op.fieldAddr 31 (Operand.tmp 5) 3, type := _, pos := _, after := _, guard := none }) (v := .pointer (some ⟨T, 44, none⟩)) rfl (by kernel_rfl) (by kernel_rfl) (by kernel_rfl) (fun _ _ _ h => h) (Or.inl ⟨by rfl, fun w hSw => by (try dsimp only at hSw); go_simp⟩) (by assumption) ?_
                      simp only [Act.put, List.setIfInBounds_toArray, List.set_cons_zero, List.set_cons_succ]
                      refine wpAnyH_take (i := 3) (oi := { dst := some 85, op := Op.indexAddr 29 (Operand.tmp 84) (Operand.tmp 83), type := _, pos := _, after := _, guard := none }) (v := .pointer (some ⟨T, 44 + s * 3, none⟩)) rfl (by kernel_rfl) (by kernel_rfl) (by kernel_rfl) (fun _ _ _ h => h) (Or.inl ⟨by rfl, fun w hSw => by (try dsimp only at hSw); go_simp⟩) (by assumption) ?_
                      simp only [Act.put, List.setIfInBounds_toArray, List.set_cons_zero, List.set_cons_succ]
                      refine wpAnyH_take (i := 4) (oi := { dst := some 86, op := Op.load 27 (Operand.tmp 85), type := _, pos := _, after := _, guard := none }) (v := .agg #[.int .i64 (u.ro s).who, .int .i64 (u.ro s).bas, .int .i64 (u.ro s).snc]) rfl (by kernel_rfl) (by kernel_rfl) (by kernel_rfl) (fun _ _ _ h => h) (Or.inl ⟨by rfl, fun w hSw => by exact Wi.ld_ex (HE.out _ hSw.1).1 Tryz.underlying27 rfl szEn rfl rfl⟩) (by assumption) ?_
                      simp only [Act.put, List.setIfInBounds_toArray, List.set_cons_zero, List.set_cons_succ]
                      refine wpAnyH_take (i := 5) (oi := { dst := some 87, op := Op.fieldAddr 39 (Operand.tmp 3) 1, type := _, pos := _, after := _, guard := none }) (v := .pointer (some ⟨M, 1, none⟩)) rfl (by kernel_rfl) (by kernel_rfl) (by kernel_rfl) (fun _ _ _ h => h) (Or.inl ⟨by rfl, fun w hSw => by (try dsimp only at hSw); go_simp⟩) (by assumption) ?_
                      simp only [Act.put, List.setIfInBounds_toArray, List.set_cons_zero, List.set_cons_succ]
                      refine wpAnyH_take (i := 6) (oi := { dst := some 88, op := Op.load 3 (Operand.tmp 87), type := _, pos := _, after := _, guard := none }) (v := .int .i64 (s : Int)) rfl (by kernel_rfl) (by kernel_rfl) (by kernel_rfl) (fun _ _ _ h => h) (Or.inl ⟨by rfl, fun w hSw => by have h := (HE.out _ hSw.1).2.2; clear hSw; go_simp⟩) (by assumption) ?_
                      simp only [Act.put, List.setIfInBounds_toArray, List.set_cons_zero, List.set_cons_succ]
                      refine wpAnyH_take (i := 7) (oi := { dst := some 89, op := Op.fieldAddr 34 (Operand.tmp 1) 0, type := _, pos := _, after := _, guard := none }) (v := .pointer (some ⟨B, 0, none⟩)) rfl (by kernel_rfl) (by kernel_rfl) (by kernel_rfl) (fun _ _ _ h => h) (Or.inl ⟨by rfl, fun w hSw => by (try dsimp only at hSw); go_simp⟩) (by assumption) ?_
                      simp only [Act.put, List.setIfInBounds_toArray, List.set_cons_zero, List.set_cons_succ]
                      refine wpAnyH_take (i := 8) (oi := { dst := some 90, op := Op.fieldAddr 31 (Operand.tmp 89) 3, type := _, pos := _, after := _, guard := none }) (v := .pointer (some ⟨B, 44, none⟩)) rfl (by kernel_rfl) (by kernel_rfl) (by kernel_rfl) (fun _ _ _ h => h) (Or.inl ⟨by rfl, fun w hSw => by (try dsimp only at hSw); go_simp⟩) (by assumption) ?_
                      simp only [Act.put, List.setIfInBounds_toArray, List.set_cons_zero, List.set_cons_succ]
                      refine wpAnyH_take (i := 9) (oi := { dst := some 91, op := Op.indexAddr 29 (Operand.tmp 90) (Operand.tmp 88), type := _, pos := _, after := _, guard := none }) (v := .pointer (some ⟨B, 44 + s * 3, none⟩)) rfl (by kernel_rfl) (by kernel_rfl) (by kernel_rfl) (fun _ _ _ h => h) (Or.inl ⟨by rfl, fun w hSw => by (try dsimp only at hSw); go_simp⟩) (by assumption) ?_
                      simp only [Act.put, List.setIfInBounds_toArray, List.set_cons_zero, List.set_cons_succ]
                      refine wpAnyH_take (i := 10) (oi := { dst := some 92, op := Op.load 27 (Operand.tmp 91), type := _, pos := _, after := _, guard := none }) (v := .agg #[.int .i64 (f0.ro s).who, .int .i64 (f0.ro s).bas, .int .i64 (f0.ro s).snc]) rfl (by kernel_rfl) (by kernel_rfl) (by kernel_rfl) (fun _ _ _ h => h) (Or.inl ⟨by rfl, fun w hSw => by exact Wi.ld_ex (HE.out _ hSw.1).2.1 Tryz.underlying27 rfl szEn rfl rfl⟩) (by assumption) ?_
                      simp only [Act.put, List.setIfInBounds_toArray, List.set_cons_zero, List.set_cons_succ]
                      refine wpAnyH_take (i := 11) (oi := { dst := some 93, op := Op.binOp BinOp.neq 27 (Operand.tmp 86) (Operand.tmp 92) 27, type := _, pos := _, after := _, guard := none }) (v := .bool (!bq)) rfl (by kernel_rfl) (by kernel_rfl) (by kernel_rfl) (fun _ _ _ h => h) (Or.inl ⟨by rfl, fun w hSw => neE_exec HBQ.out rfl rfl rfl⟩) (by assumption) ?_
                      simp only [Act.put, List.setIfInBounds_toArray, List.set_cons_zero, List.set_cons_succ]
                      refine wpAnyH_done (by kernel_rfl) ?_ _
                      go_wp2_with fail
                      go_meet
                      case rel => exact ⟨rfl, hHeld.1, hHeld.2⟩
                    case rest =>
                      as_aux_lemma =>
                        obtain ⟨rfl, hS15, hP15⟩ := hcut
                        clear hS14 hP14
                        cases bq with
                        | false =>
                          clear HBQ HSAME
                          go_upto_region 23 with (fail)
                          have hS0 : SB w wc.drew B M T f0 v x0 ba0 bh0 (lagM f0 s ba0 b) u ∧ RA wc.drew P p := ⟨hS15.later (drew_below _), hP15.later (drew_below _)⟩
                          clear hS15 hP15
                          by_cases hp0 : pe = 0
                          · subst hp0
                            obtain ⟨s', hs', hw', hpp⟩ := HDIFF.out rfl
                            have HPP : Hid (p = rpOf (atS u s' 0)) := hpp
                            have HPS : Hid (∀ W, RA W P p → W.cell? ⟨P, 1, none⟩ = some (.int .i64 (s' : Int)) ∧ W.cell? ⟨P, 2, none⟩ = some (.int .i64 u.ep)) := fun W h => by
                              have h1 := h.slt
                              have h2 := h.ep
                              rw [hpp] at h1 h2
                              exact ⟨h1, h2⟩
                            clear hpp
                            by_cases hss : s' = s
                            · subst hss
                              have HW : Hid ((u.ro s').who = x0) := hw'
                              have d7 : ((s' : Int) != (s' : Int)) = false := by simp
                              have d14 : (u.ep != u.ep) = false := by simp
                              have d25 : (x0 == x0) = true := by simp
                              clear hw' hs' HDIFF
                              refine wp_region_held_drew (S := fun W => SB w W B M T f0 v x0 ba0 bh0 (lagM f0 s' ba0 b) u ∧ RA W P p) (by kernel_rfl) hS0 (fun hHeld => ?_)
                              clear hS0
                              generalize wc.drew = wd at *
                              refine wpAnyH_take (i := 0) (oi := { dst := some 94, op := Op.move (Operand.tmp 13), type := _, pos := _, after := _, guard := none }) (v := .int .i64 0) rfl (by kernel_rfl) (by kernel_rfl) (by kernel_rfl) (fun _ _ _ h => h) (Or.inl ⟨by rfl, fun w hSw => by (try dsimp only at hSw); go_simp⟩) (by assumption) ?_
                              simp only [Act.put, List.setIfInBounds_toArray, List.set_cons_zero, List.set_cons_succ]
                              refine wpAnyH_take (i := 1) (oi := { dst := some 95, op := Op.binOp BinOp.neq 40 (Operand.tmp 94) (Operand.const (Value.int IntKind.i64 0)) 40, type := _, pos := _, after := _, guard := none }) (v := .bool false) rfl (by kernel_rfl) (by kernel_rfl) (by kernel_rfl) (fun _ _ _ h => h) (Or.inl ⟨by rfl, fun w hSw => by (try dsimp only at hSw); go_simp⟩) (by assumption) ?_
                              simp only [Act.put, List.setIfInBounds_toArray, List.set_cons_zero, List.set_cons_succ]
                              refine wpAnyH_take (i := 2) (oi := { dst := some 96, op := Op.move (Operand.tmp 95), type := _, pos := _, after := _, guard := none }) (v := .bool false) rfl (by kernel_rfl) (by kernel_rfl) (by kernel_rfl) (fun _ _ _ h => h) (Or.inl ⟨by rfl, fun w hSw => by (try dsimp only at hSw); go_simp⟩) (by assumption) ?_
                              simp only [Act.put, List.setIfInBounds_toArray, List.set_cons_zero, List.set_cons_succ]
                              refine wpAnyH_take (i := 3) (oi := { dst := some 97, op := Op.fieldAddr 60 (Operand.tmp 12) 1, type := _, pos := _, after := _, guard := some (2, false) }) (v := .pointer (some ⟨P, 1, none⟩)) rfl (by kernel_rfl) (by kernel_rfl) (by kernel_rfl) (fun _ _ _ h => h) (Or.inl ⟨by rfl, fun w hSw => by (try dsimp only at hSw); go_simp⟩) (by assumption) ?_
                              simp only [Act.put, List.setIfInBounds_toArray, List.set_cons_zero, List.set_cons_succ]
                              refine wpAnyH_take (i := 4) (oi := { dst := some 98, op := Op.load 3 (Operand.tmp 97), type := _, pos := _, after := _, guard := some (2, false) }) (v := .int .i64 (s' : Int)) rfl (by kernel_rfl) (by kernel_rfl) (by kernel_rfl) (fun _ _ _ h => h) (Or.inl ⟨by rfl, fun w hSw => by have h := (HPS.out _ hSw.2).1; clear hSw; go_simp⟩) (by assumption) ?_
                              simp only [Act.put, List.setIfInBounds_toArray, List.set_cons_zero, List.set_cons_succ]
                              refine wpAnyH_take (i := 5) (oi := { dst := some 99, op := Op.fieldAddr 39 (Operand.tmp 3) 1, type := _, pos := _, after := _, guard := some (2, false) }) (v := .pointer (some ⟨M, 1, none⟩)) rfl (by kernel_rfl) (by kernel_rfl) (by kernel_rfl) (fun _ _ _ h => h) (Or.inl ⟨by rfl, fun w hSw => by (try dsimp only at hSw); go_simp⟩) (by assumption) ?_
                              simp only [Act.put, List.setIfInBounds_toArray, List.set_cons_zero, List.set_cons_succ]
                              refine wpAnyH_take (i := 6) (oi := { dst := some 100, op := Op.load 3 (Operand.tmp 99), type := _, pos := _, after := _, guard := some (2, false) }) (v := .int .i64 (s' : Int)) rfl (by kernel_rfl) (by kernel_rfl) (by kernel_rfl) (fun _ _ _ h => h) (Or.inl ⟨by rfl, fun w hSw => by have h := (HE.out _ hSw.1).2.2; clear hSw; go_simp⟩) (by assumption) ?_
                              simp only [Act.put, List.setIfInBounds_toArray, List.set_cons_zero, List.set_cons_succ]
                              refine wpAnyH_take (i := 7) (oi := { dst := some 101, op := Op.binOp BinOp.neq 3 (Operand.tmp 98) (Operand.tmp 100) 3, type := _, pos := _, after := _, guard := some (2, false) }) (v := .bool false) rfl (by kernel_rfl) (by kernel_rfl) (by kernel_rfl) (fun _ _ _ h => h) (Or.inl ⟨by rfl, fun w hSw => by (try dsimp only at hSw); go_simp⟩) (by assumption) ?_
                              simp only [Act.put, List.setIfInBounds_toArray, List.set_cons_zero, List.set_cons_succ]
                              refine wpAnyH_take (i := 8) (oi := { dst := some 102, op := Op.pick (Operand.tmp 96) (Operand.const (Value.bool true)) (Operand.tmp 101), type := _, pos := _, after := _, guard := none }) (v := .bool false) rfl (by kernel_rfl) (by kernel_rfl) (by kernel_rfl) (fun _ _ _ h => h) (Or.inl ⟨by rfl, fun w hSw => by (try dsimp only at hSw); go_simp⟩) (by assumption) ?_
                              simp only [Act.put, List.setIfInBounds_toArray, List.set_cons_zero, List.set_cons_succ]
                              refine wpAnyH_take (i := 9) (oi := { dst := some 103, op := Op.move (Operand.tmp 102), type := _, pos := _, after := _, guard := none }) (v := .bool false) rfl (by kernel_rfl) (by kernel_rfl) (by kernel_rfl) (fun _ _ _ h => h) (Or.inl ⟨by rfl, fun w hSw => by (try dsimp only at hSw); go_simp⟩) (by assumption) ?_
                              simp only [Act.put, List.setIfInBounds_toArray, List.set_cons_zero, List.set_cons_succ]
                              refine wpAnyH_take (i := 10) (oi := { dst := some 104, op := Op.fieldAddr 60 (Operand.tmp 12) 2, type := _, pos := _, after := _, guard := some (9, false) }) (v := .pointer (some ⟨P, 2, none⟩)) rfl (by kernel_rfl) (by kernel_rfl) (by kernel_rfl) (fun _ _ _ h => h) (Or.inl ⟨by rfl, fun w hSw => by (try dsimp only at hSw); go_simp⟩) (by assumption) ?_
                              simp only [Act.put, List.setIfInBounds_toArray, List.set_cons_zero, List.set_cons_succ]
                              refine wpAnyH_take (i := 11) (oi := { dst := some 105, op := Op.load 3 (Operand.tmp 104), type := _, pos := _, after := _, guard := some (9, false) }) (v := .int .i64 u.ep) rfl (by kernel_rfl) (by kernel_rfl) (by kernel_rfl) (fun _ _ _ h => h) (Or.inl ⟨by rfl, fun w hSw => by have h := (HPS.out _ hSw.2).2; clear hSw; go_simp⟩) (by assumption) ?_
                              simp only [Act.put, List.setIfInBounds_toArray, List.set_cons_zero, List.set_cons_succ]
                              refine wpAnyH_take (i := 12) (oi := { dst := some 106, op := Op.fieldAddr 31 (Operand.tmp 5) 0, type := _, pos := _, after := _, guard := some (9, false) }) (v := .pointer (some ⟨T, 0, none⟩)) rfl (by kernel_rfl) (by kernel_rfl) (by kernel_rfl) (fun _ _ _ h => h) (Or.inl ⟨by rfl, fun w hSw => by (try dsimp only at hSw); go_simp⟩) (by assumption) ?_
                              simp only [Act.put, List.setIfInBounds_toArray, List.set_cons_zero, List.set_cons_succ]
                              refine wpAnyH_take (i := 13) (oi := { dst := some 107, op := Op.load 3 (Operand.tmp 106), type := _, pos := _, after := _, guard := some (9, false) }) (v := .int .i64 u.ep) rfl (by kernel_rfl) (by kernel_rfl) (by kernel_rfl) (fun _ _ _ h => h) (Or.inl ⟨by rfl, fun w hSw => by have h := hSw.1.tr.cells.1; clear hSw; go_simp⟩) (by assumption) ?_
                              simp only [Act.put, List.setIfInBounds_toArray, List.set_cons_zero, List.set_cons_succ]
                              refine wpAnyH_take (i := 14) (oi := { dst := some 108, op := Op.binOp BinOp.neq 3 (Operand.tmp 105) (Operand.tmp 107) 3, type := _, pos := _, after := _, guard := some (9, false) }) (v := .bool false) rfl (by kernel_rfl) (by kernel_rfl) (by kernel_rfl) (fun _ _ _ h => h) (Or.inl ⟨by rfl, fun w hSw => by (try dsimp only at hSw); go_simp⟩) (by assumption) ?_
                              simp only [Act.put, List.setIfInBounds_toArray, List.set_cons_zero, List.set_cons_succ]
                              refine wpAnyH_take (i := 15) (oi := { dst := some 109, op := Op.pick (Operand.tmp 103) (Operand.const (Value.bool true)) (Operand.tmp 108), type := _, pos := _, after := _, guard := none }) (v := .bool false) rfl (by kernel_rfl) (by kernel_rfl) (by kernel_rfl) (fun _ _ _ h => h) (Or.inl ⟨by rfl, fun w hSw => by (try dsimp only at hSw); go_simp⟩) (by assumption) ?_
                              simp only [Act.put, List.setIfInBounds_toArray, List.set_cons_zero, List.set_cons_succ]
                              refine wpAnyH_take (i := 16) (oi := { dst := some 110, op := Op.move (Operand.tmp 109), type := _, pos := _, after := _, guard := none }) (v := .bool false) rfl (by kernel_rfl) (by kernel_rfl) (by kernel_rfl) (fun _ _ _ h => h) (Or.inl ⟨by rfl, fun w hSw => by (try dsimp only at hSw); go_simp⟩) (by assumption) ?_
                              simp only [Act.put, List.setIfInBounds_toArray, List.set_cons_zero, List.set_cons_succ]
                              refine wpAnyH_take (i := 17) (oi := { dst := some 111, op := Op.fieldAddr 39 (Operand.tmp 3) 1, type := _, pos := _, after := _, guard := some (16, false) }) (v := .pointer (some ⟨M, 1, none⟩)) rfl (by kernel_rfl) (by kernel_rfl) (by kernel_rfl) (fun _ _ _ h => h) (Or.inl ⟨by rfl, fun w hSw => by (try dsimp only at hSw); go_simp⟩) (by assumption) ?_
                              simp only [Act.put, List.setIfInBounds_toArray, List.set_cons_zero, List.set_cons_succ]
                              refine wpAnyH_take (i := 18) (oi := { dst := some 112, op := Op.load 3 (Operand.tmp 111), type := _, pos := _, after := _, guard := some (16, false) }) (v := .int .i64 (s' : Int)) rfl (by kernel_rfl) (by kernel_rfl) (by kernel_rfl) (fun _ _ _ h => h) (Or.inl ⟨by rfl, fun w hSw => by have h := (HE.out _ hSw.1).2.2; clear hSw; go_simp⟩) (by assumption) ?_
                              simp only [Act.put, List.setIfInBounds_toArray, List.set_cons_zero, List.set_cons_succ]
                              refine wpAnyH_take (i := 19) (oi := { dst := some 113, op := Op.fieldAddr 31 (Operand.tmp 5) 3, type := _, pos := _, after := _, guard := some (16, false) }) (v := .pointer (some ⟨T, 44, none⟩)) rfl (by kernel_rfl) (by kernel_rfl) (by kernel_rfl) (fun _ _ _ h => h) (Or.inl ⟨by rfl, fun w hSw => by (try dsimp only at hSw); go_simp⟩) (by assumption) ?_
                              simp only [Act.put, List.setIfInBounds_toArray, List.set_cons_zero, List.set_cons_succ]
                              refine wpAnyH_take (i := 20) (oi := { dst := some 114, op := Op.indexAddr 29 (Operand.tmp 113) (Operand.tmp 112), type := _, pos := _, after := _, guard := some (16, false) }) (v := .pointer (some ⟨T, 44 + s' * 3, none⟩)) rfl (by kernel_rfl) (by kernel_rfl) (by kernel_rfl) (fun _ _ _ h => h) (Or.inl ⟨by rfl, fun w hSw => by (try dsimp only at hSw); go_simp⟩) (by assumption) ?_
                              simp only [Act.put, List.setIfInBounds_toArray, List.set_cons_zero, List.set_cons_succ]
                              refine wpAnyH_take (i := 21) (oi := { dst := some 115, op := Op.fieldAddr 27 (Operand.tmp 114) 0, type := _, pos := _, after := _, guard := some (16, false) }) (v := .pointer (some ⟨T, 44 + s' * 3, none⟩)) rfl (by kernel_rfl) (by kernel_rfl) (by kernel_rfl) (fun _ _ _ h => h) (Or.inl ⟨by rfl, fun w hSw => by (try dsimp only at hSw); go_simp⟩) (by assumption) ?_
                              simp only [Act.put, List.setIfInBounds_toArray, List.set_cons_zero, List.set_cons_succ]
                              refine wpAnyH_take (i := 22) (oi := { dst := some 116, op := Op.load 3 (Operand.tmp 115), type := _, pos := _, after := _, guard := some (16, false) }) (v := .int .i64 x0) rfl (by kernel_rfl) (by kernel_rfl) (by kernel_rfl) (fun _ _ _ h => h) (Or.inl ⟨by rfl, fun w hSw => by have h := (hSw.1.tr.ent s' HFA.out.2.1).1; rw [HW.out] at h; clear hSw; go_simp⟩) (by assumption) ?_
                              simp only [Act.put, List.setIfInBounds_toArray, List.set_cons_zero, List.set_cons_succ]
                              refine wpAnyH_take (i := 23) (oi := { dst := some 117, op := Op.fieldAddr 34 (Operand.tmp 1) 2, type := _, pos := _, after := _, guard := some (16, false) }) (v := .pointer (some ⟨B, 237, none⟩)) rfl (by kernel_rfl) (by kernel_rfl) (by kernel_rfl) (fun _ _ _ h => h) (Or.inl ⟨by rfl, fun w hSw => by (try dsimp only at hSw); go_simp⟩) (by assumption) ?_
                              simp only [Act.put, List.setIfInBounds_toArray, List.set_cons_zero, List.set_cons_succ]
                              refine wpAnyH_take (i := 24) (oi := { dst := some 118, op := Op.load 3 (Operand.tmp 117), type := _, pos := _, after := _, guard := some (16, false) }) (v := .int .i64 x0) rfl (by kernel_rfl) (by kernel_rfl) (by kernel_rfl) (fun _ _ _ h => h) (Or.inl ⟨by rfl, fun w hSw => by have h := hSw.1.lg.rest.2.1; clear hSw; go_simp⟩) (by assumption) ?_
                              simp only [Act.put, List.setIfInBounds_toArray, List.set_cons_zero, List.set_cons_succ]
                              refine wpAnyH_take (i := 25) (oi := { dst := some 119, op := Op.binOp BinOp.eql 3 (Operand.tmp 116) (Operand.tmp 118) 3, type := _, pos := _, after := _, guard := some (16, false) }) (v := .bool true) rfl (by kernel_rfl) (by kernel_rfl) (by kernel_rfl) (fun _ _ _ h => h) (Or.inl ⟨by rfl, fun w hSw => by (try dsimp only at hSw); go_simp⟩) (by assumption) ?_
                              simp only [Act.put, List.setIfInBounds_toArray, List.set_cons_zero, List.set_cons_succ]
                              refine wpAnyH_take (i := 26) (oi := { dst := some 120, op := Op.pick (Operand.tmp 110) (Operand.const (Value.bool true)) (Operand.tmp 119), type := _, pos := _, after := _, guard := none }) (v := .bool true) rfl (by kernel_rfl) (by kernel_rfl) (by kernel_rfl) (fun _ _ _ h => h) (Or.inl ⟨by rfl, fun w hSw => by (try dsimp only at hSw); go_simp⟩) (by assumption) ?_
                              simp only [Act.put, List.setIfInBounds_toArray, List.set_cons_zero, List.set_cons_succ]
                              refine wpAnyH_take (i := 27) (oi := { dst := some 2, op := Op.assign (Operand.tmp 120), type := _, pos := _, after := _, guard := none }) (v := .bool true) rfl (by kernel_rfl) (by kernel_rfl) (by kernel_rfl) (fun _ _ _ h => h) (Or.inl ⟨by rfl, fun w hSw => by (try dsimp only at hSw); go_simp⟩) (by assumption) ?_
                              simp only [Act.put, List.setIfInBounds_toArray, List.set_cons_zero, List.set_cons_succ]
                              refine wpAnyH_done (by kernel_rfl) ?_ _
                              go_wp2_with fail
                              go_ret
                              exact ⟨rfl, hHeld.1.bel⟩
                            · have d7 : ((s' : Int) != (s : Int)) = true := by simp; omega
                              clear hw' hs' HDIFF
                              refine wp_region_held_drew (S := fun W => SB w W B M T f0 v x0 ba0 bh0 (lagM f0 s ba0 b) u ∧ RA W P p) (by kernel_rfl) hS0 (fun hHeld => ?_)
                              clear hS0
                              generalize wc.drew = wd at *
                              refine wpAnyH_take (i := 0) (oi := { dst := some 94, op := Op.move (Operand.tmp 13), type := _, pos := _, after := _, guard := none }) (v := .int .i64 0) rfl (by kernel_rfl) (by kernel_rfl) (by kernel_rfl) (fun _ _ _ h => h) (Or.inl ⟨by rfl, fun w hSw => by (try dsimp only at hSw); go_simp⟩) (by assumption) ?_
                              simp only [Act.put, List.setIfInBounds_toArray, List.set_cons_zero, List.set_cons_succ]
                              refine wpAnyH_take (i := 1) (oi := { dst := some 95, op := Op.binOp BinOp.neq 40 (Operand.tmp 94) (Operand.const (Value.int IntKind.i64 0)) 40, type := _, pos := _, after := _, guard := none }) (v := .bool false) rfl (by kernel_rfl) (by kernel_rfl) (by kernel_rfl) (fun _ _ _ h => h) (Or.inl ⟨by rfl, fun w hSw => by (try dsimp only at hSw); go_simp⟩) (by assumption) ?_
                              simp only [Act.put, List.setIfInBounds_toArray, List.set_cons_zero, List.set_cons_succ]
                              refine wpAnyH_take (i := 2) (oi := { dst := some 96, op := Op.move (Operand.tmp 95), type := _, pos := _, after := _, guard := none }) (v := .bool false) rfl (by kernel_rfl) (by kernel_rfl) (by kernel_rfl) (fun _ _ _ h => h) (Or.inl ⟨by rfl, fun w hSw => by (try dsimp only at hSw); go_simp⟩) (by assumption) ?_
                              simp only [Act.put, List.setIfInBounds_toArray, List.set_cons_zero, List.set_cons_succ]
                              refine wpAnyH_take (i := 3) (oi := { dst := some 97, op := Op.fieldAddr 60 (Operand.tmp 12) 1, type := _, pos := _, after := _, guard := some (2, false) }) (v := .pointer (some ⟨P, 1, none⟩)) rfl (by kernel_rfl) (by kernel_rfl) (by kernel_rfl) (fun _ _ _ h => h) (Or.inl ⟨by rfl, fun w hSw => by (try dsimp only at hSw); go_simp⟩) (by assumption) ?_
                              simp only [Act.put, List.setIfInBounds_toArray, List.set_cons_zero, List.set_cons_succ]
                              refine wpAnyH_take (i := 4) (oi := { dst := some 98, op := Op.load 3 (Operand.tmp 97), type := _, pos := _, after := _, guard := some (2, false) }) (v := .int .i64 (s' : Int)) rfl (by kernel_rfl) (by kernel_rfl) (by kernel_rfl) (fun _ _ _ h => h) (Or.inl ⟨by rfl, fun w hSw => by have h := (HPS.out _ hSw.2).1; clear hSw; go_simp⟩) (by assumption) ?_
                              simp only [Act.put, List.setIfInBounds_toArray, List.set_cons_zero, List.set_cons_succ]
                              refine wpAnyH_take (i := 5) (oi := { dst := some 99, op := Op.fieldAddr 39 (Operand.tmp 3) 1, type := _, pos := _, after := _, guard := some (2, false) }) (v := .pointer (some ⟨M, 1, none⟩)) rfl (by kernel_rfl) (by kernel_rfl) (by kernel_rfl) (fun _ _ _ h => h) (Or.inl ⟨by rfl, fun w hSw => by (try dsimp only at hSw); go_simp⟩) (by assumption) ?_
                              simp only [Act.put, List.setIfInBounds_toArray, List.set_cons_zero, List.set_cons_succ]
                              refine wpAnyH_take (i := 6) (oi := { dst := some 100, op := Op.load 3 (Operand.tmp 99), type := _, pos := _, after := _, guard := some (2, false) }) (v := .int .i64 (s : Int)) rfl (by kernel_rfl) (by kernel_rfl) (by kernel_rfl) (fun _ _ _ h => h) (Or.inl ⟨by rfl, fun w hSw => by have h := (HE.out _ hSw.1).2.2; clear hSw; go_simp⟩) (by assumption) ?_
                              simp only [Act.put, List.setIfInBounds_toArray, List.set_cons_zero, List.set_cons_succ]
                              refine wpAnyH_take (i := 7) (oi := { dst := some 101, op := Op.binOp BinOp.neq 3 (Operand.tmp 98) (Operand.tmp 100) 3, type := _, pos := _, after := _, guard := some (2, false) }) (v := .bool true) rfl (by kernel_rfl) (by kernel_rfl) (by kernel_rfl) (fun _ _ _ h => h) (Or.inl ⟨by rfl, fun w hSw => by (try dsimp only at hSw); go_simp⟩) (by assumption) ?_
                              simp only [Act.put, List.setIfInBounds_toArray, List.set_cons_zero, List.set_cons_succ]
                              refine wpAnyH_take (i := 8) (oi := { dst := some 102, op := Op.pick (Operand.tmp 96) (Operand.const (Value.bool true)) (Operand.tmp 101), type := _, pos := _, after := _, guard := none }) (v := .bool true) rfl (by kernel_rfl) (by kernel_rfl) (by kernel_rfl) (fun _ _ _ h => h) (Or.inl ⟨by rfl, fun w hSw => by (try dsimp only at hSw); go_simp⟩) (by assumption) ?_
                              simp only [Act.put, List.setIfInBounds_toArray, List.set_cons_zero, List.set_cons_succ]
                              refine wpAnyH_take (i := 9) (oi := { dst := some 103, op := Op.move (Operand.tmp 102), type := _, pos := _, after := _, guard := none }) (v := .bool true) rfl (by kernel_rfl) (by kernel_rfl) (by kernel_rfl) (fun _ _ _ h => h) (Or.inl ⟨by rfl, fun w hSw => by (try dsimp only at hSw); go_simp⟩) (by assumption) ?_
                              simp only [Act.put, List.setIfInBounds_toArray, List.set_cons_zero, List.set_cons_succ]
                              refine wpAnyH_take (i := 10) (oi := { dst := some 104, op := Op.fieldAddr 60 (Operand.tmp 12) 2, type := _, pos := _, after := _, guard := some (9, false) }) (v := undef) rfl (by kernel_rfl) (by kernel_rfl) (by kernel_rfl) (fun _ _ _ h => h) (Or.inr ⟨by rfl, rfl⟩) (by assumption) ?_
                              simp only [Act.put, List.setIfInBounds_toArray, List.set_cons_zero, List.set_cons_succ]
                              refine wpAnyH_take (i := 11) (oi := { dst := some 105, op := Op.load 3 (Operand.tmp 104), type := _, pos := _, after := _, guard := some (9, false) }) (v := undef) rfl (by kernel_rfl) (by kernel_rfl) (by kernel_rfl) (fun _ _ _ h => h) (Or.inr ⟨by rfl, rfl⟩) (by assumption) ?_
                              simp only [Act.put, List.setIfInBounds_toArray, List.set_cons_zero, List.set_cons_succ]
                              refine wpAnyH_take (i := 12) (oi := { dst := some 106, op := Op.fieldAddr 31 (Operand.tmp 5) 0, type := _, pos := _, after := _, guard := some (9, false) }) (v := undef) rfl (by kernel_rfl) (by kernel_rfl) (by kernel_rfl) (fun _ _ _ h => h) (Or.inr ⟨by rfl, rfl⟩) (by assumption) ?_
                              simp only [Act.put, List.setIfInBounds_toArray, List.set_cons_zero, List.set_cons_succ]
                              refine wpAnyH_take (i := 13) (oi := { dst := some 107, op := Op.load 3 (Operand.tmp 106), type := _, pos := _, after := _, guard := some (9, false) }) (v := undef) rfl (by kernel_rfl) (by kernel_rfl) (by kernel_rfl) (fun _ _ _ h => h) (Or.inr ⟨by rfl, rfl⟩) (by assumption) ?_
                              simp only [Act.put, List.setIfInBounds_toArray, List.set_cons_zero, List.set_cons_succ]
                              refine wpAnyH_take (i := 14) (oi := { dst := some 108, op := Op.binOp BinOp.neq 3 (Operand.tmp 105) (Operand.tmp 107) 3, type := _, pos := _, after := _, guard := some (9, false) }) (v := undef) rfl (by kernel_rfl) (by kernel_rfl) (by kernel_rfl) (fun _ _ _ h => h) (Or.inr ⟨by rfl, rfl⟩) (by assumption) ?_
                              simp only [Act.put, List.setIfInBounds_toArray, List.set_cons_zero, List.set_cons_succ]
                              refine wpAnyH_take (i := 15) (oi := { dst := some 109, op := Op.pick (Operand.tmp 103) (Operand.const (Value.bool true)) (Operand.tmp 108), type := _, pos := _, after := _, guard := none }) (v := .bool true) rfl (by kernel_rfl) (by kernel_rfl) (by kernel_rfl) (fun _ _ _ h => h) (Or.inl ⟨by rfl, fun w hSw => by (try dsimp only at hSw); go_simp⟩) (by assumption) ?_
                              simp only [Act.put, List.setIfInBounds_toArray, List.set_cons_zero, List.set_cons_succ]
                              refine wpAnyH_take (i := 16) (oi := { dst := some 110, op := Op.move (Operand.tmp 109), type := _, pos := _, after := _, guard := none }) (v := .bool true) rfl (by kernel_rfl) (by kernel_rfl) (by kernel_rfl) (fun _ _ _ h => h) (Or.inl ⟨by rfl, fun w hSw => by (try dsimp only at hSw); go_simp⟩) (by assumption) ?_
                              simp only [Act.put, List.setIfInBounds_toArray, List.set_cons_zero, List.set_cons_succ]
                              refine wpAnyH_take (i := 17) (oi := { dst := some 111, op := Op.fieldAddr 39 (Operand.tmp 3) 1, type := _, pos := _, after := _, guard := some (16, false) }) (v := undef) rfl (by kernel_rfl) (by kernel_rfl) (by kernel_rfl) (fun _ _ _ h => h) (Or.inr ⟨by rfl, rfl⟩) (by assumption) ?_
                              simp only [Act.put, List.setIfInBounds_toArray, List.set_cons_zero, List.set_cons_succ]
                              refine wpAnyH_take (i := 18) (oi := { dst := some 112, op := Op.load 3 (Operand.tmp 111), type := _, pos := _, after := _, guard := some (16, false) }) (v := undef) rfl (by kernel_rfl) (by kernel_rfl) (by kernel_rfl) (fun _ _ _ h => h) (Or.inr ⟨by rfl, rfl⟩) (by assumption) ?_
                              simp only [Act.put, List.setIfInBounds_toArray, List.set_cons_zero, List.set_cons_succ]
                              refine wpAnyH_take (i := 19) (oi := { dst := some 113, op := Op.fieldAddr 31 (Operand.tmp 5) 3, type := _, pos := _, after := _, guard := some (16, false) }) (v := undef) rfl (by kernel_rfl) (by kernel_rfl) (by kernel_rfl) (fun _ _ _ h => h) (Or.inr ⟨by rfl, rfl⟩) (by assumption) ?_
                              simp only [Act.put, List.setIfInBounds_toArray, List.set_cons_zero, List.set_cons_succ]
                              refine wpAnyH_take (i := 20) (oi := { dst := some 114, op := Op.indexAddr 29 (Operand.tmp 113) (Operand.tmp 112), type := _, pos := _, after := _, guard := some (16, false) }) (v := undef) rfl (by kernel_rfl) (by kernel_rfl) (by kernel_rfl) (fun _ _ _ h => h) (Or.inr ⟨by rfl, rfl⟩) (by assumption) ?_
                              simp only [Act.put, List.setIfInBounds_toArray, List.set_cons_zero, List.set_cons_succ]
                              refine wpAnyH_take (i := 21) (oi := { dst := some 115, op := Op.fieldAddr 27 (Operand.tmp 114) 0, type := _, pos := _, after := _, guard := some (16, false) }) (v := undef) rfl (by kernel_rfl) (by kernel_rfl) (by kernel_rfl) (fun _ _ _ h => h) (Or.inr ⟨by rfl, rfl⟩) (by assumption) ?_
                              simp only [Act.put, List.setIfInBounds_toArray, List.set_cons_zero, List.set_cons_succ]
                              refine wpAnyH_take (i := 22) (oi := { dst := some 116, op := Op.load 3 (Operand.tmp 115), type := _, pos := _, after := _, guard := some (16, false) }) (v := undef) rfl (by kernel_rfl) (by kernel_rfl) (by kernel_rfl) (fun _ _ _ h => h) (Or.inr ⟨by rfl, rfl⟩) (by assumption) ?_
                              simp only [Act.put, List.setIfInBounds_toArray, List.set_cons_zero, List.set_cons_succ]
                              refine wpAnyH_take (i := 23) (oi := { dst := some 117, op := Op.fieldAddr 34 (Operand.tmp 1) 2, type := _, pos := _, after := _, guard := some (16, false) }) (v := undef) rfl (by kernel_rfl) (by kernel_rfl) (by kernel_rfl) (fun _ _ _ h => h) (Or.inr ⟨by rfl, rfl⟩) (by assumption) ?_
                              simp only [Act.put, List.setIfInBounds_toArray, List.set_cons_zero, List.set_cons_succ]
                              refine wpAnyH_take (i := 24) (oi := { dst := some 118, op := Op.load 3 (Operand.tmp 117), type := _, pos := _, after := _, guard := some (16, false) }) (v := undef) rfl (by kernel_rfl) (by kernel_rfl) (by kernel_rfl) (fun _ _ _ h => h) (Or.inr ⟨by rfl, rfl⟩) (by assumption) ?_
                              simp only [Act.put, List.setIfInBounds_toArray, List.set_cons_zero, List.set_cons_succ]
                              refine wpAnyH_take (i := 25) (oi := { dst := some 119, op := Op.binOp BinOp.eql 3 (Operand.tmp 116) (Operand.tmp 118) 3, type := _, pos := _, after := _, guard := some (16, false) }) (v := undef) rfl (by kernel_rfl) (by kernel_rfl) (by kernel_rfl) (fun _ _ _ h => h) (Or.inr ⟨by rfl, rfl⟩) (by assumption) ?_
                              simp only [Act.put, List.setIfInBounds_toArray, List.set_cons_zero, List.set_cons_succ]
                              refine wpAnyH_take (i := 26) (oi := { dst := some 120, op := Op.pick (Operand.tmp 110) (Operand.const (Value.bool true)) (Operand.tmp 119), type := _, pos := _, after := _, guard := none }) (v := .bool true) rfl (by kernel_rfl) (by kernel_rfl) (by kernel_rfl) (fun _ _ _ h => h) (Or.inl ⟨by rfl, fun w hSw => by (try dsimp only at hSw); go_simp⟩) (by assumption) ?_
                              simp only [Act.put, List.setIfInBounds_toArray, List.set_cons_zero, List.set_cons_succ]
                              refine wpAnyH_take (i := 27) (oi := { dst := some 2, op := Op.assign (Operand.tmp 120), type := _, pos := _, after := _, guard := none }) (v := .bool true) rfl (by kernel_rfl) (by kernel_rfl) (by kernel_rfl) (fun _ _ _ h => h) (Or.inl ⟨by rfl, fun w hSw => by (try dsimp only at hSw); go_simp⟩) (by assumption) ?_
                              simp only [Act.put, List.setIfInBounds_toArray, List.set_cons_zero, List.set_cons_succ]
                              refine wpAnyH_done (by kernel_rfl) ?_ _
                              go_wp2_with fail
                              go_ret
                              exact ⟨rfl, hHeld.1.bel⟩
                          · have d1 : (pe != 0) = true := by simpa using hp0
                            clear HDIFF hp0
                            refine wp_region_held_drew (S := fun W => SB w W B M T f0 v x0 ba0 bh0 (lagM f0 s ba0 b) u ∧ RA W P p) (by kernel_rfl) hS0 (fun hHeld => ?_)
                            clear hS0
                            generalize wc.drew = wd at *
                            refine wpAnyH_take (i := 0) (oi := { dst := some 94, op := Op.move (Operand.tmp 13), type := _, pos := _, after := _, guard := none }) (v := .int .i64 pe) rfl (by kernel_rfl) (by kernel_rfl) (by kernel_rfl) (fun _ _ _ h => h) (Or.inl ⟨by rfl, fun w hSw => by (try dsimp only at hSw); go_simp⟩) (by assumption) ?_
                            simp only [Act.put, List.setIfInBounds_toArray, List.set_cons_zero, List.set_cons_succ]
                            refine wpAnyH_take (i := 1) (oi := { dst := some 95, op := Op.binOp BinOp.neq 40 (Operand.tmp 94) (Operand.const (Value.int IntKind.i64 0)) 40, type := _, pos := _, after := _, guard := none }) (v := .bool true) rfl (by kernel_rfl) (by kernel_rfl) (by kernel_rfl) (fun _ _ _ h => h) (Or.inl ⟨by rfl, fun w hSw => by (try dsimp only at hSw); go_simp⟩) (by assumption) ?_
                            simp only [Act.put, List.setIfInBounds_toArray, List.set_cons_zero, List.set_cons_succ]
                            refine wpAnyH_take (i := 2) (oi := { dst := some 96, op := Op.move (Operand.tmp 95), type := _, pos := _, after := _, guard := none }) (v := .bool true) rfl (by kernel_rfl) (by kernel_rfl) (by kernel_rfl) (fun _ _ _ h => h) (Or.inl ⟨by rfl, fun w hSw => by (try dsimp only at hSw); go_simp⟩) (by assumption) ?_
                            simp only [Act.put, List.setIfInBounds_toArray, List.set_cons_zero, List.set_cons_succ]
                            refine wpAnyH_take (i := 3) (oi := { dst := some 97, op := Op.fieldAddr 60 (Operand.tmp 12) 1, type := _, pos := _, after := _, guard := some (2, false) }) (v := undef) rfl (by kernel_rfl) (by kernel_rfl) (by kernel_rfl) (fun _ _ _ h => h) (Or.inr ⟨by rfl, rfl⟩) (by assumption) ?_
                            simp only [Act.put, List.setIfInBounds_toArray, List.set_cons_zero, List.set_cons_succ]
                            refine wpAnyH_take (i := 4) (oi := { dst := some 98, op := Op.load 3 (Operand.tmp 97), type := _, pos := _, after := _, guard := some (2, false) }) (v := undef) rfl (by kernel_rfl) (by kernel_rfl) (by kernel_rfl) (fun _ _ _ h => h) (Or.inr ⟨by rfl, rfl⟩) (by assumption) ?_
                            simp only [Act.put, List.setIfInBounds_toArray, List.set_cons_zero, List.set_cons_succ]
                            refine wpAnyH_take (i := 5) (oi := { dst := some 99, op := Op.fieldAddr 39 (Operand.tmp 3) 1, type := _, pos := _, after := _, guard := some (2, false) }) (v := undef) rfl (by kernel_rfl) (by kernel_rfl) (by kernel_rfl) (fun _ _ _ h => h) (Or.inr ⟨by rfl, rfl⟩) (by assumption) ?_
                            simp only [Act.put, List.setIfInBounds_toArray, List.set_cons_zero, List.set_cons_succ]
                            refine wpAnyH_take (i := 6) (oi := { dst := some 100, op := Op.load 3 (Operand.tmp 99), type := _, pos := _, after := _, guard := some (2, false) }) (v := undef) rfl (by kernel_rfl) (by kernel_rfl) (by kernel_rfl) (fun _ _ _ h => h) (Or.inr ⟨by rfl, rfl⟩) (by assumption) ?_
                            simp only [Act.put, List.setIfInBounds_toArray, List.set_cons_zero, List.set_cons_succ]
                            refine wpAnyH_take (i := 7) (oi := { dst := some 101, op := Op.binOp BinOp.neq 3 (Operand.tmp 98) (Operand.tmp 100) 3, type := _, pos := _, after := _, guard := some (2, false) }) (v := undef) rfl (by kernel_rfl) (by kernel_rfl) (by kernel_rfl) (fun _ _ _ h => h) (Or.inr ⟨by rfl, rfl⟩) (by assumption) ?_
                            simp only [Act.put, List.setIfInBounds_toArray, List.set_cons_zero, List.set_cons_succ]
                            refine wpAnyH_take (i := 8) (oi := { dst := some 102, op := Op.pick (Operand.tmp 96) (Operand.const (Value.bool true)) (Operand.tmp 101), type := _, pos := _, after := _, guard := none }) (v := .bool true) rfl (by kernel_rfl) (by kernel_rfl) (by kernel_rfl) (fun _ _ _ h => h) (Or.inl ⟨by rfl, fun w hSw => by (try dsimp only at hSw); go_simp⟩) (by assumption) ?_
                            simp only [Act.put, List.setIfInBounds_toArray, List.set_cons_zero, List.set_cons_succ]
                            refine wpAnyH_take (i := 9) (oi := { dst := some 103, op := Op.move (Operand.tmp 102), type := _, pos := _, after := _, guard := none }) (v := .bool true) rfl (by kernel_rfl) (by kernel_rfl) (by kernel_rfl) (fun _ _ _ h => h) (Or.inl ⟨by rfl, fun w hSw => by (try dsimp only at hSw); go_simp⟩) (by assumption) ?_
                            simp only [Act.put, List.setIfInBounds_toArray, List.set_cons_zero, List.set_cons_succ]
                            refine wpAnyH_take (i := 10) (oi := { dst := some 104, op := Op.fieldAddr 60 (Operand.tmp 12) 2, type := _, pos := _, after := _, guard := some (9, false) }) (v := undef) rfl (by kernel_rfl) (by kernel_rfl) (by kernel_rfl) (fun _ _ _ h => h) (Or.inr ⟨by rfl, rfl⟩) (by assumption) ?_
                            simp only [Act.put, List.setIfInBounds_toArray, List.set_cons_zero, List.set_cons_succ]
                            refine wpAnyH_take (i := 11) (oi := { dst := some 105, op := Op.load 3 (Operand.tmp 104), type := _, pos := _, after := _, guard := some (9, false) }) (v := undef) rfl (by kernel_rfl) (by kernel_rfl) (by kernel_rfl) (fun _ _ _ h => h) (Or.inr ⟨by rfl, rfl⟩) (by assumption) ?_
                            simp only [Act.put, List.setIfInBounds_toArray, List.set_cons_zero, List.set_cons_succ]
                            refine wpAnyH_take (i := 12) (oi := { dst := some 106, op := Op.fieldAddr 31 (Operand.tmp 5) 0, type := _, pos := _, after := _, guard := some (9, false) }) (v := undef) rfl (by kernel_rfl) (by kernel_rfl) (by kernel_rfl) (fun _ _ _ h => h) (Or.inr ⟨by rfl, rfl⟩) (by assumption) ?_
                            simp only [Act.put, List.setIfInBounds_toArray, List.set_cons_zero, List.set_cons_succ]
                            refine wpAnyH_take (i := 13) (oi := { dst := some 107, op := Op.load 3 (Operand.tmp 106), type := _, pos := _, after := _, guard := some (9, false) }) (v := undef) rfl (by kernel_rfl) (by kernel_rfl) (by kernel_rfl) (fun _ _ _ h => h) (Or.inr ⟨by rfl, rfl⟩) (by assumption) ?_
                            simp only [Act.put, List.setIfInBounds_toArray, List.set_cons_zero, List.set_cons_succ]
                            refine wpAnyH_take (i := 14) (oi := { dst := some 108, op := Op.binOp BinOp.neq 3 (Operand.tmp 105) (Operand.tmp 107) 3, type := _, pos := _, after := _, guard := some (9, false) }) (v := undef) rfl (by kernel_rfl) (by kernel_rfl) (by kernel_rfl) (fun _ _ _ h => h) (Or.inr ⟨by rfl, rfl⟩) (by assumption) ?_
                            simp only [Act.put, List.setIfInBounds_toArray, List.set_cons_zero, List.set_cons_succ]
                            refine wpAnyH_take (i := 15) (oi := { dst := some 109, op := Op.pick (Operand.tmp 103) (Operand.const (Value.bool true)) (Operand.tmp 108), type := _, pos := _, after := _, guard := none }) (v := .bool true) rfl (by kernel_rfl) (by kernel_rfl) (by kernel_rfl) (fun _ _ _ h => h) (Or.inl ⟨by rfl, fun w hSw => by (try dsimp only at hSw); go_simp⟩) (by assumption) ?_
                            simp only [Act.put, List.setIfInBounds_toArray, List.set_cons_zero, List.set_cons_succ]
                            refine wpAnyH_take (i := 16) (oi := { dst := some 110, op := Op.move (Operand.tmp 109), type := _, pos := _, after := _, guard := none }) (v := .bool true) rfl (by kernel_rfl) (by kernel_rfl) (by kernel_rfl) (fun _ _ _ h => h) (Or.inl ⟨by rfl, fun w hSw => by (try dsimp only at hSw); go_simp⟩) (by assumption) ?_
                            simp only [Act.put, List.setIfInBounds_toArray, List.set_cons_zero, List.set_cons_succ]
                            refine wpAnyH_take (i := 17) (oi := { dst := some 111, op := Op.fieldAddr 39 (Operand.tmp 3) 1, type := _, pos := _, after := _, guard := some (16, false) }) (v := undef) rfl (by kernel_rfl) (by kernel_rfl) (by kernel_rfl) (fun _ _ _ h => h) (Or.inr ⟨by rfl, rfl⟩) (by assumption) ?_
                            simp only [Act.put, List.setIfInBounds_toArray, List.set_cons_zero, List.set_cons_succ]
                            refine wpAnyH_take (i := 18) (oi := { dst := some 112, op := Op.load 3 (Operand.tmp 111), type := _, pos := _, after := _, guard := some (16, false) }) (v := undef) rfl (by kernel_rfl) (by kernel_rfl) (by kernel_rfl) (fun _ _ _ h => h) (Or.inr ⟨by rfl, rfl⟩) (by assumption) ?_
                            simp only [Act.put, List.setIfInBounds_toArray, List.set_cons_zero, List.set_cons_succ]
                            refine wpAnyH_take (i := 19) (oi := { dst := some 113, op := Op.fieldAddr 31 (Operand.tmp 5) 3, type := _, pos := _, after := _, guard := some (16, false) }) (v := undef) rfl (by kernel_rfl) (by kernel_rfl) (by kernel_rfl) (fun _ _ _ h => h) (Or.inr ⟨by rfl, rfl⟩) (by assumption) ?_
                            simp only [Act.put, List.setIfInBounds_toArray, List.set_cons_zero, List.set_cons_succ]
                            refine wpAnyH_take (i := 20) (oi := { dst := some 114, op := Op.indexAddr 29 (Operand.tmp 113) (Operand.tmp 112), type := _, pos := _, after := _, guard := some (16, false) }) (v := undef) rfl (by kernel_rfl) (by kernel_rfl) (by kernel_rfl) (fun _ _ _ h => h) (Or.inr ⟨by rfl, rfl⟩) (by assumption) ?_
                            simp only [Act.put, List.setIfInBounds_toArray, List.set_cons_zero, List.set_cons_succ]
                            refine wpAnyH_take (i := 21) (oi := { dst := some 115, op := Op.fieldAddr 27 (Operand.tmp 114) 0, type := _, pos := _, after := _, guard := some (16, false) }) (v := undef) rfl (by kernel_rfl) (by kernel_rfl) (by kernel_rfl) (fun _ _ _ h => h) (Or.inr ⟨by rfl, rfl⟩) (by assumption) ?_
                            simp only [Act.put, List.setIfInBounds_toArray, List.set_cons_zero, List.set_cons_succ]
                            refine wpAnyH_take (i := 22) (oi := { dst := some 116, op := Op.load 3 (Operand.tmp 115), type := _, pos := _, after := _, guard := some (16, false) }) (v := undef) rfl (by kernel_rfl) (by kernel_rfl) (by kernel_rfl) (fun _ _ _ h => h) (Or.inr ⟨by rfl, rfl⟩) (by assumption) ?_
                            simp only [Act.put, List.setIfInBounds_toArray, List.set_cons_zero, List.set_cons_succ]
                            refine wpAnyH_take (i := 23) (oi := { dst := some 117, op := Op.fieldAddr 34 (Operand.tmp 1) 2, type := _, pos := _, after := _, guard := some (16, false) }) (v := undef) rfl (by kernel_rfl) (by kernel_rfl) (by kernel_rfl) (fun _ _ _ h => h) (Or.inr ⟨by rfl, rfl⟩) (by assumption) ?_
                            simp only [Act.put, List.setIfInBounds_toArray, List.set_cons_zero, List.set_cons_succ]
                            refine wpAnyH_take (i := 24) (oi := { dst := some 118, op := Op.load 3 (Operand.tmp 117), type := _, pos := _, after := _, guard := some (16, false) }) (v := undef) rfl (by kernel_rfl) (by kernel_rfl) (by kernel_rfl) (fun _ _ _ h => h) (Or.inr ⟨by rfl, rfl⟩) (by assumption) ?_
                            simp only [Act.put, List.setIfInBounds_toArray, List.set_cons_zero, List.set_cons_succ]
                            refine wpAnyH_take (i := 25) (oi := { dst := some 119, op := Op.binOp BinOp.eql 3 (Operand.tmp 116) (Operand.tmp 118) 3, type := _, pos := _, after := _, guard := some (16, false) }) (v := undef) rfl (by kernel_rfl) (by kernel_rfl) (by kernel_rfl) (fun _ _ _ h => h) (Or.inr ⟨by rfl, rfl⟩) (by assumption) ?_
                            simp only [Act.put, List.setIfInBounds_toArray, List.set_cons_zero, List.set_cons_succ]
                            refine wpAnyH_take (i := 26) (oi := { dst := some 120, op := Op.pick (Operand.tmp 110) (Operand.const (Value.bool true)) (Operand.tmp 119), type := _, pos := _, after := _, guard := none }) (v := .bool true) rfl (by kernel_rfl) (by kernel_rfl) (by kernel_rfl) (fun _ _ _ h => h) (Or.inl ⟨by rfl, fun w hSw => by (try dsimp only at hSw); go_simp⟩) (by assumption) ?_
                            simp only [Act.put, List.setIfInBounds_toArray, List.set_cons_zero, List.set_cons_succ]
                            refine wpAnyH_take (i := 27) (oi := { dst := some 2, op := Op.assign (Operand.tmp 120), type := _, pos := _, after := _, guard := none }) (v := .bool true) rfl (by kernel_rfl) (by kernel_rfl) (by kernel_rfl) (fun _ _ _ h => h) (Or.inl ⟨by rfl, fun w hSw => by (try dsimp only at hSw); go_simp⟩) (by assumption) ?_
                            simp only [Act.put, List.setIfInBounds_toArray, List.set_cons_zero, List.set_cons_succ]
                            refine wpAnyH_done (by kernel_rfl) ?_ _
                            go_wp2_with fail
                            go_ret
                            exact ⟨rfl, hHeld.1.bel⟩
                        | true =>
                          have he : u.ro s = f0.ro s := Rs.eqE_iff.1 HBQ.out
                          obtain ⟨rfl, hpp⟩ := HSAME.out he
                          have HPP : Hid (p = rpOf (atS u s 0)) := hpp
                          have HK : Hid (tkn (u.ro s) = true) := by unfold Hid; rw [he]; exact HFA.out.2.2.1
                          have HWU : Hid ((u.ro s).who = x0) := by unfold Hid; rw [he]; exact HFA.out.2.2.2
                          have hta := take_any (lagM f0 s ba0 b) p
                          unfold TkA at hta
                          have HOLD : Hid ((ba0 = false ∧ u.ep = f0.ep) → tkE (lagM f0 s ba0 b) p = 21) := fun h => by
                            have h1 := lag_old (n := u) HFA.out.1 HFR.out.1 HFA.out.2.1 HFA.out.2.2.1 he HBB.out h.2
                            rw [← hpp, ← h.1] at h1
                            exact h1
                          have HNEW : Hid (¬ (ba0 = false ∧ u.ep = f0.ep) → tkE (lagM f0 s ba0 b) p = 0 ∧ tkM (lagM f0 s ba0 b) p = atS u s (if b ≤ u.ep then 0 else b)) := fun h => by
                            have h1 := lag_take (n := u) HFA.out.1 HFR.out.1 HFA.out.2.1 HFA.out.2.2.1 he ba0 HBB.out HFR.out.2 h
                            rw [← hpp] at h1
                            exact h1
                          have HNO : Hid (tkE (lagM f0 s ba0 b) p ≠ 0 → tkM (lagM f0 s ba0 b) p = lagM f0 s ba0 b) := tkM_no
                          clear hpp HSAME HDIFF HBQ he
                          simp only [HM.out, HP.out] at hta
                          by_cases ho : ba0 = false ∧ u.ep = f0.ep
                          · have h21 := HOLD.out ho
                            rw [h21, HNO.out (by rw [h21]; decide), HM.out] at hta
                            obtain ⟨hb0, hue⟩ := ho
                            subst hb0
                            clear HOLD HNEW HNO h21
                            have hM15 := hS15.mb
                            go_wp2_with (first | (refine ldMb hM15 HM.out _ rfl rfl rfl ?_) | (refine ldRp hP15 HP.out _ rfl rfl rfl ?_))
                            refine (hta _).mono ?_
                            rintro r w16 ⟨rfl, hb16⟩
                            have hS17 := (hS15.later hb16).later (below_alloc w16 (.cells cm 39))
                            have hD17 := MA.new w16 (lagM f0 s false b)
                            rw [HM.out] at hD17
                            clear hb16 hS15 hP15 hta hM15
                            go_upto_region 25 with (refine stMn (w := w16) HM.out rfl _ _ rfl rfl rfl ?_)
                            generalize w16.alloc (.cells cm 39) = w17 at *
                            generalize w16.heap.size = D at *
                            have c11 := hS17.mb.has
                            rw [lag_has] at c11
                            have c2 := hS17.mb.ep
                            rw [lag_ep] at c2
                            have t0 := hS17.tr.cells.1
                            rw [hue] at t0
                            have d1 : (f0.ep == f0.ep) = true := by simp
                            have HBE : Hid (Below w.heap.size w w17) := hS17.bel
                            have HMM : Hid (mE (lagM f0 s false b) (lagM f0 s false b) = true) := mE_iff.2 rfl
                            have hM17 := hS17.mb
                            clear hue hS17
                            go_upto_region 28 with (fail)
                            clear c11 c2 t0 d1
                            go_wp2_with (first | (refine ldMb hD17 HM.out _ rfl rfl rfl ?_) | (refine ldMb hM17 HM.out _ rfl rfl rfl ?_) | (refine eqM HM.out HM.out HMM.out _ _ rfl rfl rfl rfl ?_))
                            go_ret
                            exact ⟨rfl, HBE.out⟩
                          · obtain ⟨h0, h1⟩ := HNEW.out ho
                            rw [h0, h1] at hta
                            obtain ⟨b', hb'⟩ : ∃ b', (if b ≤ u.ep then 0 else b) = b' := ⟨_, rfl⟩
                            have HBP : Hid (b' = 0 ∨ (u.ep < b' ∧ b' ≤ 200 ∧ b' = b)) := by
                              unfold Hid
                              rw [← hb']
                              have := HBB.out
                              split <;> omega
                            rw [hb'] at hta
                            have HAG : Hid (tkE (atS u s b') p = 21) := by
                              have h2 := again_old (n := u) (b := b') HFR.out.1 HFA.out.2.1 HK.out (by have := HBP.out; omega)
                              rw [← HPP.out] at h2
                              exact h2
                            have hta2 := take_any (atS u s b') p
                            unfold TkA at hta2
                            rw [HAG.out, tkM_no (by rw [HAG.out]; decide)] at hta2
                            have hst2 := stand_r u x0
                            have hsu := stM_at HFR.out.1 HFA.out.2.1 HK.out
                            rw [HWU.out] at hsu
                            rw [hsu.1, hsu.2] at hst2
                            clear hb' h0 h1 HOLD HNEW HNO HAG HPP HBB hsu
                            obtain ⟨cn, hcn⟩ : ∃ c, mba (atS u s b') = c := ⟨_, rfl⟩
                            have HN : Hid (mba (atS u s b') = cn) := hcn
                            simp only [hcn] at hta hta2
                            clear hcn
                            obtain ⟨cz, hcz⟩ : ∃ c, mba (atS u s 0) = c := ⟨_, rfl⟩
                            have HZ : Hid (mba (atS u s 0) = cz) := hcz
                            simp only [hcz, HU.out] at hst2
                            clear hcz
                            simp only [HP.out] at hta2
                            have HHO : Hid (¬ (ba0 = false ∧ u.ep = f0.ep)) := ho
                            clear ho
                            have hM15 := hS15.mb
                            go_wp2_with (first | (refine ldMb hM15 HM.out _ rfl rfl rfl ?_) | (refine ldRp hP15 HP.out _ rfl rfl rfl ?_))
                            refine (hta _).mono ?_
                            rintro r w16 ⟨rfl, hb16⟩
                            have hb17 := Wi.Below.join hb16 (below_alloc w16 (.cells cn 39))
                            have hS17 := hS15.later hb17
                            have hP17 := hP15.later hb17
                            have hD17 := MA.new w16 (atS u s b')
                            rw [HN.out] at hD17
                            clear hb16 hb17 hS15 hP15 hta hM15
                            go_upto_region 25 with (refine stMn (w := w16) HN.out rfl _ _ rfl rfl rfl ?_)
                            generalize w16.alloc (.cells cn 39) = w17 at *
                            generalize w16.heap.size = D at *
                            go_upto_region 27 with (fail)
                            go_cut [137] (fun s137 wx => s137 = .bool false ∧ SB w wx B M T f0 v x0 ba0 bh0 (lagM f0 s ba0 b) u ∧ RA wx P p ∧ MA wx D (atS u s b'))
                            case first =>
                              have c11 := hS17.mb.has
                              rw [lag_has] at c11
                              have c2 := hS17.mb.ep
                              rw [lag_ep] at c2
                              have t0 := hS17.tr.cells.1
                              have HX : Hid (SB w w17 B M T f0 v x0 ba0 bh0 (lagM f0 s ba0 b) u ∧ RA w17 P p ∧ MA w17 D (atS u s b')) := ⟨hS17, hP17, hD17⟩
                              clear hS17 hP17 hD17
                              cases ba0 with
                              | true =>
                                have c11 : w17.cell? ⟨M, 11, none⟩ = some (.bool false) := c11
                                go_wp2_with fail
                                go_meet
                                case rel => exact ⟨rfl, HX.out⟩
                              | false =>
                                have c11 : w17.cell? ⟨M, 11, none⟩ = some (.bool true) := c11
                                have d1 : (u.ep == f0.ep) = false := by have h := HHO.out; simpa using fun e => h ⟨rfl, e⟩
                                go_wp2_with fail
                                go_meet
                                case rel => exact ⟨rfl, HX.out⟩
                            case rest =>
                              as_aux_lemma =>
                                obtain ⟨rfl, hS18, hP18, hD18⟩ := hcut
                                clear hS17 hP17 hD17 HHO
                                have hT18 := hS18.tr
                                have r1 := hS18.lg.rest.2.1
                                go_wp2_with (refine rdT hT18 HU.out _ rfl rfl rfl ?_)
                                refine (hst2 _).mono ?_
                                rintro r w19 ⟨rfl, hb19⟩
                                have hb20 := Wi.Below.join hb19 (below_alloc w19 (.cells cz 39))
                                have HB20 : Hid (Below w.heap.size w (w19.alloc (.cells cz 39))) := (hS18.later hb20).bel
                                have hM20 := hS18.mb.later hb20
                                have hP20 := hP18.later hb20
                                have hD20 := hD18.later hb20
                                have hE20 := MA.new w19 (atS u s 0)
                                rw [HZ.out] at hE20
                                have HGE : Hid (w.heap.size ≤ w19.heap.size) := (hS18.later hb19).bel.size
                                have HME : Hid (M ≠ w19.heap.size) := Nat.ne_of_lt (hS18.mb.later hb19).lt
                                have HDE : Hid (D ≠ w19.heap.size) := Nat.ne_of_lt (hD18.later hb19).lt
                                have HPE : Hid (P ≠ w19.heap.size) := Nat.ne_of_lt (Wi.row_lt (hP18.later hb19))
                                clear hb19 hb20 hS18 hP18 hD18 hT18 r1 hst2
                                go_upto_region 30 with (refine stMn (w := w19) HZ.out rfl _ _ rfl rfl rfl ?_)
                                generalize w19.alloc (.cells cz 39) = w20 at *
                                generalize w19.heap.size = E at *
                                have z1 : w20.cell? ⟨D, 13, none⟩ = some (.int .i64 b') := hD20.bh
                                have z2 := hE20.bh
                                have f13 := hE20.fr 13
                                have hE21 : MA (w20.setCell ⟨E, 13, none⟩ (.int .i64 b')) E (atS u s b') := setB_row hE20 b'
                                have hM21 : MA (w20.setCell ⟨E, 13, none⟩ (.int .i64 b')) M (lagM f0 s ba0 b) := (Rt.other_setCell HME.out _ _).trans hM20
                                have hD21 : MA (w20.setCell ⟨E, 13, none⟩ (.int .i64 b')) D (atS u s b') := (Rt.other_setCell HDE.out _ _).trans hD20
                                have hP21 : RA (w20.setCell ⟨E, 13, none⟩ (.int .i64 b')) P p := (Rt.other_setCell HPE.out _ _).trans hP20
                                have HB21 : Hid (Below w.heap.size w (w20.setCell ⟨E, 13, none⟩ (.int .i64 b'))) := HB20.out.setCell (p := ⟨E, 13, none⟩) HGE.out _
                                have HAL : Hid (MA (w20.setCell ⟨E, 13, none⟩ (.int .i64 b')) E (atS u s b') ∧ MA (w20.setCell ⟨E, 13, none⟩ (.int .i64 b')) M (lagM f0 s ba0 b) ∧ MA (w20.setCell ⟨E, 13, none⟩ (.int .i64 b')) D (atS u s b') ∧ RA (w20.setCell ⟨E, 13, none⟩ (.int .i64 b')) P p) := ⟨hE21, hM21, hD21, hP21⟩
                                clear hM20 hP20 hD20 hE20 hE21 hM21 hD21 hP21 HB20 HME HDE HPE HGE
                                go_upto_region 31 with (fail)
                                clear z1 z2 f13
                                generalize w20.setCell ⟨E, 13, none⟩ (.int .i64 b') = w21 at *
                                obtain ⟨hE21, hM21, hD21, hP21⟩ := HAL.out
                                clear HAL
                                have HNN : Hid (mE (atS u s b') (atS u s b') = true) := mE_iff.2 rfl
                                go_cut [184] (fun s184 wx => s184 = .bool false ∧ Below w.heap.size w wx ∧ RA wx P p ∧ MA wx D (atS u s b'))
                                case first =>
                                  have HX : Hid (Below w.heap.size w w21 ∧ RA w21 P p ∧ MA w21 D (atS u s b')) := ⟨HB21.out, hP21, hD21⟩
                                  have z1 : w21.cell? ⟨D, 13, none⟩ = some (.int .i64 b') := hD21.bh
                                  have z2 : w21.cell? ⟨D, 2, none⟩ = some (.int .i64 u.ep) := hD21.ep
                                  have z3 := hM21.bh
                                  rw [lag_bh] at z3
                                  rcases HBP.out with h0 | ⟨h1, _, h3⟩
                                  · have d1 : (b' != 0) = false := by simpa using h0
                                    have HD21 : Hid _ := hD21
                                    have HE21 : Hid _ := hE21
                                    have Z1 : Hid _ := z1
                                    have Z2 : Hid _ := z2
                                    have Z3 : Hid _ := z3
                                    clear h0 hP21 hM21 hD21 hE21 z1 z2 z3
                                    go_wp2_with (first | (have q1 := HD21.out; refine ldMb q1 HN.out _ rfl rfl rfl ?_; clear q1) | (have q1 := HE21.out; refine ldMb q1 HN.out _ rfl rfl rfl ?_; clear q1) | (have q1 := HNN.out; refine neM HN.out HN.out q1 _ _ rfl rfl rfl rfl ?_; have z1 := Z1.out; have z2 := Z2.out; have z3 := Z3.out; clear q1 HD21 HE21 HNN))
                                    go_meet
                                    case rel => exact ⟨rfl, HX.out⟩
                                  · have d1 : (b' != 0) = true := by simp; have := (atS_sat HFA.out.1 HFA.out.2.1 HFA.out.2.2.1 (b := 0) (.inl rfl)).ep.1; have h4 : 1 ≤ f0.ep := this; have h5 := HFR.out.2; omega
                                    rw [← h3] at z3
                                    have d2 : (b' != b') = false := by simp
                                    have d3 : decide (b' ≤ u.ep) = false := decide_eq_false (by omega)
                                    have HD21 : Hid _ := hD21
                                    have HE21 : Hid _ := hE21
                                    have Z1 : Hid _ := z1
                                    have Z2 : Hid _ := z2
                                    have Z3 : Hid _ := z3
                                    clear h1 h3 hP21 hM21 hD21 hE21 z1 z2 z3
                                    go_wp2_with (first | (have q1 := HD21.out; refine ldMb q1 HN.out _ rfl rfl rfl ?_; clear q1) | (have q1 := HE21.out; refine ldMb q1 HN.out _ rfl rfl rfl ?_; clear q1) | (have q1 := HNN.out; refine neM HN.out HN.out q1 _ _ rfl rfl rfl rfl ?_; have z1 := Z1.out; have z2 := Z2.out; have z3 := Z3.out; clear q1 HD21 HE21 HNN))
                                    go_meet
                                    case rel => exact ⟨rfl, HX.out⟩
                                case rest =>
                                  as_aux_lemma =>
                                    obtain ⟨rfl, hB22, hP22, hD22⟩ := hcut
                                    clear hE21 hM21 hD21 hP21 HB21
                                    go_upto_region 33 with (fail)
                                    go_wp2_with (first | (refine ldMb hD22 HN.out _ rfl rfl rfl ?_) | (refine ldRp hP22 HP.out _ rfl rfl rfl ?_))
                                    refine (hta2 _).mono ?_
                                    rintro r w23 ⟨rfl, hb23⟩
                                    have hb24 := Wi.Below.join hb23 (below_alloc w23 (.cells cn 39))
                                    have HB24 : Hid (Below w.heap.size w (w23.alloc (.cells cn 39))) := Wi.Below.join hB22 hb24
                                    have hD24 := hD22.later hb24
                                    have hF24 := MA.new w23 (atS u s b')
                                    rw [HN.out] at hF24
                                    clear hb23 hb24 hB22 hP22 hD22 hta2
                                    go_upto_region 34 with (refine stMn (w := w23) HN.out rfl _ _ rfl rfl rfl ?_)
                                    generalize w23.alloc (.cells cn 39) = w24 at *
                                    generalize w23.heap.size = F at *
                                    go_wp2_with (first | (refine ldMb hF24 HN.out _ rfl rfl rfl ?_) | (refine ldMb hD24 HN.out _ rfl rfl rfl ?_) | (refine eqM HN.out HN.out HNN.out _ _ rfl rfl rfl rfl ?_))
                                    go_ret
                                    exact ⟨rfl, HB24.out⟩
  · have d0 : (caE f0 x0 != 0) = true := by simpa using hce
    clear hce hL4 hM4
    generalize caE f0 x0 = ce at *
    go_wp2_with fail
    go_ret
    exact ⟨rfl, HB4.out⟩
theorem own : ownKnob Tryz.prog.godebug = none := by kernel_rfl
theorem laidOut : laidOutB Tryz.prog = true := by kernel_rfl
set_option maxRecDepth 100000 in
theorem lifted (os : Os) (started : os.Started) (H : Type) (enc : TypeId × Value → H) :
    ReturnsInHanded {} Tryz.checked os 3 .any (Rows.recoveryBringsSpec.pre6 enc Tryz.prog Tryz.f3 Rows.recoveryBringsRow.domain false) (Rows.recoveryBringsSpec.post enc Tryz.prog Tryz.f3 false true false false) := by
  refine returnsInHanded_of_change_sized (C := Tryz.checked) own started (by kernel_rfl) Tryz.func3
    (ChangeSpec.witness6 (enc := enc) (C := Tryz.checked) false ⟨#[], #[.agg (List.replicate 236 (Value.int .i64 0) ++ [Value.slice none 0 0, Value.int .i64 0, Value.bool false, Value.int .i64 0]).toArray], []⟩ 8 (by kernel_rfl) (by kernel_rfl) (by kernel_rfl) (by kernel_rfl)) ?_
  intro W base args ds gs before hval0 hW hcnd hsz0 _
  have hsz : (DataW.weightsEach Tryz.prog (Tryz.f3.params.toList ++ Rows.recoveryBringsSpec.plain.varTypes Tryz.prog) (ds ++ gs)).all (· ≤ reachBytes) = true := hsz0
  clear hsz0
  have hval : ∀ (j : Nat) t v, Tryz.f3.params[j]? = some t → args[j]? = some v → Value.okWide Tryz.prog W .any base t v := hval0
  have hW' := hW
  obtain ⟨p, q, hA0, hV, rfl, hfz, hnd⟩ := hW
  have hA : DataW.TrodAll enc Tryz.prog W 0 (fun _ => true) true Tryz.f3.params.toList args.toList ds p := hA0
  rw [Tryz.params3] at hA hval hsz
  obtain ⟨v0, vs0, d0, ds0, p0, q0, hargs, rfl, rfl, h0, r0⟩ := trodAll_cons hA
  obtain ⟨rfl, rfl, rfl⟩ := trodAll_nil r0
  obtain rfl : args = #[v0] := by cases args; simp_all
  obtain ⟨rfl, rfl⟩ := trodVars_none hV
  have k0 := h0
  have lt0 : ∀ x ∈ p0, x.block < W.heap.size := by obtain ⟨m, hm⟩ := k0; exact DataW.trod_lt m _ _ _ hm
  obtain ⟨f0, a0, c0, l0, x0, ba0, bh0, rfl, rd0, hl0, hn0⟩ := Rv.open_lag (fun parts e => by subst e; exact Wi.sized_agg hsz (j := 0) (t := 34) rfl rfl Tryz.underlying34) (hval 0 34 v0 rfl rfl) h0
  clear hA0 hval0
  refine (walk f0 a0 c0 l0 x0 ba0 bh0 W rd0 hl0 hn0).mono fun e W' ⟨he, bel⟩ => ?_
  subst he
  exact ⟨_, rfl, _, _, _, [], _, [], hW', trodAll_mk1 (shut_bool Tryz.underlying4 _), (trodAll_cons_mk (Below.trod laidOut (by kernel_rfl) (of_decide_eq_true (by kernel_rfl)) k0 bel lt0) trodAll_mk0), rfl, bel.frame _, fun h => by cases h⟩
theorem over : Rows.recoveryBringsRow.holds Tryz.pinned (OpenSpec.ofChange Rows.recoveryBringsSpec) :=
  OpenClaim.holds_of_wide 3 Tryz.f3 rfl rfl rfl rfl rfl rfl rfl ⟨rfl, rfl, rfl, rfl, rfl⟩ rfl rfl rfl rfl rfl (by kernel_rfl) Tryz.func3 (by kernel_rfl)
    (of_decide_eq_true (by kernel_rfl)) (by unfold Func.isWrapper; first | (rw [if_pos (by decide +kernel)]; kernel_rfl) | (rw [if_neg (by decide +kernel)]; exact ⟨rfl, rfl⟩))
    (fun os started H enc _ => lifted os started H enc)
end Go.Proofs.YtpimbpfefhkojaaGreat.recoveryBrings
namespace Go.Proofs.YtpimbpfefhkojaaGreat
theorem recoveryBrings_holds : Rows.RecoveryBringsSaid := recoveryBrings.over
#print axioms recoveryBrings_holds
end Go.Proofs.YtpimbpfefhkojaaGreat
