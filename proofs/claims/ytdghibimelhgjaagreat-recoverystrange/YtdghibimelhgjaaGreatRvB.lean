/- Replies in memory; contracts: replyTo, Answer of both. MADE by wip/mk_rv.py. -/
import Derived.Test.YtdghibimelhgjaaGreatRvA
import Derived.Test.YtdghibimelhgjaaGreatRvMath2
import Derived.Test.YtdghibimelhgjaaGreatKeyJ
import Derived.Test.YtdghibimelhgjaaGreatMbJ3
import Derived.Test.YtdghibimelhgjaaGreatMbJ5
import Derived.Test.YtdghibimelhgjaaGreatTrJ3
import Derived.BigRegion
namespace Go.Proofs.YtdghibimelhgjaaGreat.Rv
open Go.RowKit Go.Maps Mb
open Rt (Ky zK gd gv Gd gd_iff pcs KyAt)
open Wi (gR gE gW gS gI gB gK gP zP ldM stM rd_guard ra_of th_of ra_later RdV itl stl bxl)
set_option linter.unusedVariables false
set_option linter.unusedSimpArgs false

def rpa (p : Rp) : Array Value := (Wi.rpl p).toArray
def RA (w : World) (B : Nat) (p : Rp) : Prop := w.heap[B]? = some (.cells (rpa p) 47 (0, 0))
theorem infoRp : (Tryz.prog.info? 47).map (·.size) = some 15 := by kernel_rfl
theorem rpa_one (p : Rp) : (rpa p).all (·.oneCell') = true := by simp [rpa, Wi.rpl, Value.oneCell']
theorem RA.later {w w' : World} {B : Nat} {p : Rp} (h : RA w B p) (hb : Below w.heap.size w w') : RA w' B p := row_later h hb
theorem RA.new (w : World) (p : Rp) : RA (w.alloc (.cells (rpa p) 47)) w.heap.size p := heap_alloc_last w _
theorem RA.all {w : World} {B : Nat} {p : Rp} (h : RA w B p) : w.rangeAt B 0 (Wi.rpl p) := ra_of h 0 (Wi.rpl p) rfl
theorem RA.there {w : World} {B : Nat} {p : Rp} (h : RA w B p) (o n : Nat) (e : o + n ≤ 15) : w.there B o n := th_of h o n e
theorem RA.who {w : World} {B : Nat} {p : Rp} (h : RA w B p) : w.cell? ⟨B, 0, none⟩ = some (.int .i64 p.1.1) := (cell_of_row w B 0 _ _ _ h).trans rfl
theorem RA.slt {w : World} {B : Nat} {p : Rp} (h : RA w B p) : w.cell? ⟨B, 1, none⟩ = some (.int .i64 p.1.2) := (cell_of_row w B 1 _ _ _ h).trans rfl
theorem RA.ep {w : World} {B : Nat} {p : Rp} (h : RA w B p) : w.cell? ⟨B, 2, none⟩ = some (.int .i64 p.2.1) := (cell_of_row w B 2 _ _ _ h).trans rfl
theorem RA.b0 {w : World} {B : Nat} {p : Rp} (h : RA w B p) : w.rangeAt B 3 (bxl p.2.2.1) := ra_of h 3 _ rfl
theorem RA.b1 {w : World} {B : Nat} {p : Rp} (h : RA w B p) : w.rangeAt B 7 (bxl p.2.2.2.1) := ra_of h 7 _ rfl
theorem RA.b2 {w : World} {B : Nat} {p : Rp} (h : RA w B p) : w.rangeAt B 11 (bxl p.2.2.2.2) := ra_of h 11 _ rfl
theorem RA.var {w : World} {B : Nat} {p : Rp} (h : RA w B p) : (loadVar 47 ⟨B, 0, none⟩).run Tryz.prog w = .ok (.agg (rpa p)) w := run_loadVar_row w B _ 47 _ _ _ h Tryz.underlying47 rfl infoRp
theorem RA.row {w : World} {B : Nat} {p : Rp} (h : RA w B p) (q : Rp) : RA (w.setRow B (rpa q)) B q := Rt.heap_setRow_same h _
theorem RA.set0 {w : World} {B : Nat} {p : Rp} (h : RA w B p) (b : (Int × Int) × (Int × Int)) : RA (w.setCells B 3 (bxl b)) B (p.1, (p.2.1, (b, p.2.2.2))) := Wi.row_upd (bxl b) 3 h
theorem RA.set1 {w : World} {B : Nat} {p : Rp} (h : RA w B p) (b : (Int × Int) × (Int × Int)) : RA (w.setCells B 7 (bxl b)) B (p.1, (p.2.1, (p.2.2.1, (b, p.2.2.2.2)))) := Wi.row_upd (bxl b) 7 h
theorem RA.set2 {w : World} {B : Nat} {p : Rp} (h : RA w B p) (b : (Int × Int) × (Int × Int)) : RA (w.setCells B 11 (bxl b)) B (p.1, (p.2.1, (p.2.2.1, (p.2.2.2.1, b)))) := Wi.row_upd (bxl b) 11 h
/- Loaded, stored. -/
theorem ldRp {ops : Array Oper} {rest : List Oper} {o : Oper} {a : Act} {w : World} {Q : Exit → Act → World → Prop} {B : Nat} {p : Rp} {c : Array Value} (h : RA w B p) (hc : rpa p = c) (x : Operand) (ho : o.op = .load 47 x) (hx : a.eval x = .pointer (some ⟨B, 0, none⟩)) (hw : Region.wanted o (yielded ops a.tmps) = true)
    (k : wpList Tryz.prog ops Q rest (a.put o.dst (.agg c)) w) : wpList Tryz.prog ops Q (o :: rest) a w := by
  subst hc
  exact ldM h.all Tryz.underlying47 rfl infoRp x ho hx hw k
theorem stRp {ops : Array Oper} {rest : List Oper} {o : Oper} {a : Act} {w : World} {Q : Exit → Act → World → Prop} {B : Nat} {p : Rp} (h : RA w B p) (q : Rp) {c : Array Value} (hc : rpa q = c) (hgd : o.guard = none) (x y : Operand) (ho : o.op = .store 47 x y) (hx : a.eval x = .pointer (some ⟨B, 0, none⟩)) (hy : a.eval y = .agg c)
    (k : wpList Tryz.prog ops Q rest (a.put o.dst undef) (w.setRow B (rpa q))) : wpList Tryz.prog ops Q (o :: rest) a w := by
  subst hc
  exact stRow infoRp (cs := rpa p) rfl h (rpa q) rfl (rpa_one q) hgd x y ho hx hy k
theorem stRpn {ops : Array Oper} {rest : List Oper} {o : Oper} {a : Act} {w : World} {Q : Exit → Act → World → Prop} (p q : Rp) {c d : Array Value} (hd : rpa p = d) (hc : rpa q = c) (hgd : o.guard = none) (x y : Operand) (ho : o.op = .store 47 x y) (hx : a.eval x = .pointer (some ⟨w.heap.size, 0, none⟩)) (hy : a.eval y = .agg c)
    (k : wpList Tryz.prog ops Q rest (a.put o.dst undef) (w.alloc (.cells (rpa q) 47))) : wpList Tryz.prog ops Q (o :: rest) a (w.alloc (.cells d 47)) := by
  subst hd hc
  refine stRp (RA.new w p) q rfl hgd x y ho hx hy ?_
  rw [World.setRow_alloc_new]
  exact k
theorem px0 (a b c : Ky) (w : World) : (Instr.index 25 (.agg (pal a b c).toArray) (.int .i64 0)).run Tryz.prog w = .ok (.agg #[.int .i64 a.bas, .int .i64 a.stp]) w := by kernel_rfl
theorem px1 (a b c : Ky) (w : World) : (Instr.index 25 (.agg (pal a b c).toArray) (.int .i64 1)).run Tryz.prog w = .ok (.agg #[.int .i64 b.bas, .int .i64 b.stp]) w := by kernel_rfl
theorem px2 (a b c : Ky) (w : World) : (Instr.index 25 (.agg (pal a b c).toArray) (.int .i64 2)).run Tryz.prog w = .ok (.agg #[.int .i64 c.bas, .int .i64 c.stp]) w := by kernel_rfl
theorem rpa_zero : (#[.int .i64 0, .int .i64 0, .int .i64 0, .int .i64 0, .int .i64 0, .int .i64 0, .int .i64 0, .int .i64 0, .int .i64 0, .int .i64 0, .int .i64 0, .int .i64 0, .int .i64 0, .int .i64 0, .int .i64 0] : Array Value) = rpa zP := rfl
def rp0 (a b c : Int) : Rp := ((a, b), (c, (((0, 0), (0, 0)), (((0, 0), (0, 0)), ((0, 0), (0, 0))))))
theorem rpa_0 (a b c : Int) : (#[.int .i64 a, .int .i64 b, .int .i64 c, .int .i64 0, .int .i64 0, .int .i64 0, .int .i64 0, .int .i64 0, .int .i64 0, .int .i64 0, .int .i64 0, .int .i64 0, .int .i64 0, .int .i64 0, .int .i64 0] : Array Value) = rpa (rp0 a b c) := rfl
theorem results_rp {fn : Func} {p : Tmp} (hf : fn.results = #[.cell p 47 ]) (tmps : Array Value) (W : World) (B : Nat) (q : Rp) (hp : tmps[p]? = some (.pointer (some ⟨B, 0, none⟩))) (h : RA W B q) :
    (results fn tmps).run Tryz.prog W = .ok (.agg (rpa q)) W := by
  simp [results, hf, hp, asAddr, h.var]
structure SR (w W : World) (B K P : Nat) (m : Mb) (p : Rp) : Prop where
  mb : MA W B m
  re : RA W K zP
  pr : RA W P p
  bel : Below w.heap.size w W
  gk : w.heap.size ≤ K
  gp : w.heap.size ≤ P
  n1 : B ≠ P
  n2 : K ≠ P
theorem SR.later {w W W' : World} {B K P : Nat} {m : Mb} {p : Rp} (h : SR w W B K P m p) (hb : Below W.heap.size W W') : SR w W' B K P m p := ⟨h.mb.later hb, h.re.later hb, h.pr.later hb, h.bel.trans (hb.mono h.bel.size), h.gk, h.gp, h.n1, h.n2⟩
theorem SR.upd {w W : World} {B K P : Nat} {m : Mb} {p : Rp} (h : SR w W B K P m p) {o : Nat} {vs : List Value} {q : Rp} (hq : RA (W.setCells P o vs) P q) : SR w (W.setCells P o vs) B K P m q := ⟨(Wi.other_upd h.n1 vs o).trans h.mb, (Wi.other_upd h.n2 vs o).trans h.re, hq, Wi.upd_below h.gp vs o h.bel, h.gk, h.gp, h.n1, h.n2⟩
theorem SR.alloc {w W : World} {B K : Nat} {m : Mb} (hm : MA W B m) (hr : RA W K zP) (hb : Below w.heap.size w W) (hk : w.heap.size ≤ K) (p : Rp) : SR w (W.alloc (.cells (rpa p) 47)) B K W.heap.size m p :=
  ⟨hm.later (below_alloc _ _), hr.later (below_alloc _ _), RA.new W p, Wi.Below.plus hb _, hk, hb.size, Nat.ne_of_lt hm.lt, Nat.ne_of_lt (Wi.row_lt hr)⟩
theorem seal_k {a b : Ky} (ha : gk a = true) (hb : gk b = true) (w : World) : Calls Tryz.prog 49 #[.agg #[.int .i64 a.bas, .int .i64 a.stp], .agg #[.int .i64 b.bas, .int .i64 b.stp]] w fun r w' => r = .returned (.tuple #[.agg #[.int .i64 a.bas, .int .i64 a.stp, .int .i64 b.bas, .int .i64 b.stp], .int .i64 0]) ∧ Below w.heap.size w w' :=
  Rt.seal_yes a.bas a.stp b.bas b.stp (gd_iff.1 ha) (gd_iff.1 hb) w
set_option maxRecDepth 100000 in
set_option maxHeartbeats 2000000 in
theorem replyTo_any (m : Mb) (hk : knd m = 3) (w : World) : Calls Tryz.prog 26 #[.agg (mba m)] w fun r w' => r = .returned (.agg (rpa (rpOf m))) ∧ Below w.heap.size w w' := by
  obtain ⟨g, hg0, hg1, hg2⟩ : gk m.lf = true ∧ gk m.p0 = true ∧ gk m.p1 = true ∧ gk m.p2 = true := by
    obtain ⟨hs, ⟨_, h2, _⟩ | ⟨_, _, h0, h1, h2⟩⟩ := knd_sat (.inr hk)
    · rw [hk] at h2; cases h2
    · exact ⟨hs.lf, h0, h1, h2⟩
  have sl0 := seal_k g hg0
  have sl1 := seal_k g hg1
  have sl2 := seal_k g hg2
  have px0 := px0 m.p0 m.p1 m.p2
  have px1 := px1 m.p0 m.p1 m.p2
  have px2 := px2 m.p0 m.p1 m.p2
  clear hk g hg0 hg1 hg2
  have hM := (MA.new w m).later (below_alloc (w.alloc (.cells (mba m) 27)) (.cells (rpa zP) 47))
  have hR := RA.new (w.alloc (.cells (mba m) 27)) zP
  have hB := Wi.Below.plus (below_alloc w (.cells (mba m) 27)) (.cells (rpa zP) 47)
  rw [World.size_alloc] at hR
  obtain ⟨cm, hcm⟩ : ∃ c, mba m = c := ⟨_, rfl⟩
  have HC : Hid (mba m = cm) := hcm
  rw [hcm] at hM hR hB
  rw [hcm]
  clear hcm
  go_enter Tryz.func26, Tryz.ntmps26
  go_upto_region 1 with (fail)
  rw [rpa_zero]
  generalize (w.alloc (.cells cm 27)).alloc (.cells (rpa zP) 47) = w1 at *
  have hS := SR.alloc hM hR hB (by omega) (rp0 m.who m.slt m.ep)
  obtain ⟨K, hK⟩ : ∃ K, w.heap.size + 1 = K := ⟨_, rfl⟩
  obtain ⟨B, hBe⟩ : ∃ B, w.heap.size = B := ⟨_, rfl⟩
  rw [hBe] at hM
  have HBe : Hid (w.heap.size = B) := hBe
  rw [hK] at hS ⊢
  have hS : SR w (w1.alloc (.cells (rpa (rp0 m.who m.slt m.ep)) 47)) B K w1.heap.size m (rp0 m.who m.slt m.ep) := by have h := hS; rw [← hBe]; exact h
  rw [hBe]
  have c0 := hM.who
  have c1 := hM.slt
  have c2 := hM.ep
  clear hM hR hB hK hBe HBe
  go_upto_region 2 with (refine stRpn zP (rp0 m.who m.slt m.ep) rfl rfl rfl _ _ rfl rfl rfl ?_)
  clear c0 c1 c2
  generalize w1.alloc (.cells (rpa (rp0 m.who m.slt m.ep)) 47) = wc at *
  generalize w1.heap.size = P at *
  go_wp2_with (refine ldPa hS.mb _ rfl rfl rfl ?_)
  refine wp_loop_rounds 4 ?_
  have hSa := hS.later (below_alloc wc (.cells #[.int .i64 m.p0.bas, .int .i64 m.p0.stp] 23))
  have hky := KyAt.new wc m.p0
  rw [rounds_succ]
  go_upto_region 5 with (fail)
  generalize wc.alloc (.cells #[.int .i64 m.p0.bas, .int .i64 m.p0.stp] 23) = wa at *
  generalize wc.heap.size = Y at *
  obtain ⟨y0, y1⟩ := hky.cells
  obtain ⟨c3, c4⟩ := hSa.mb.leaf
  clear hS hky
  go_wp2_with fail
  refine (sl0 _).mono ?_
  rintro r wb ⟨rfl, hb⟩
  have hSb := hSa.later hb
  have ht := hSb.pr.there 3 4 (by decide)
  have hS := hSb.upd (hSb.pr.set0 (bx m.lf m.p0))
  clear hSa hb y0 y1 c3 c4 sl0
  go_upto_region 6 with (refine stM (cs := bxl (bx m.lf m.p0)) ht Wi.szBox rfl rfl _ _ rfl rfl rfl ?_)
  generalize wb.setCells P 3 (bxl (bx m.lf m.p0)) = wc at *
  clear hSb ht
  go_wp2_with fail
  have hSa := hS.later (below_alloc wc (.cells #[.int .i64 m.p1.bas, .int .i64 m.p1.stp] 23))
  have hky := KyAt.new wc m.p1
  rw [rounds_succ]
  go_upto_region 5 with (fail)
  generalize wc.alloc (.cells #[.int .i64 m.p1.bas, .int .i64 m.p1.stp] 23) = wa at *
  generalize wc.heap.size = Y at *
  obtain ⟨y0, y1⟩ := hky.cells
  obtain ⟨c3, c4⟩ := hSa.mb.leaf
  clear hS hky
  go_wp2_with fail
  refine (sl1 _).mono ?_
  rintro r wb ⟨rfl, hb⟩
  have hSb := hSa.later hb
  have ht := hSb.pr.there 7 4 (by decide)
  have hS := hSb.upd (hSb.pr.set1 (bx m.lf m.p1))
  clear hSa hb y0 y1 c3 c4 sl1
  go_upto_region 6 with (refine stM (cs := bxl (bx m.lf m.p1)) ht Wi.szBox rfl rfl _ _ rfl rfl rfl ?_)
  generalize wb.setCells P 7 (bxl (bx m.lf m.p1)) = wc at *
  clear hSb ht
  go_wp2_with fail
  have hSa := hS.later (below_alloc wc (.cells #[.int .i64 m.p2.bas, .int .i64 m.p2.stp] 23))
  have hky := KyAt.new wc m.p2
  rw [rounds_succ]
  go_upto_region 5 with (fail)
  generalize wc.alloc (.cells #[.int .i64 m.p2.bas, .int .i64 m.p2.stp] 23) = wa at *
  generalize wc.heap.size = Y at *
  obtain ⟨y0, y1⟩ := hky.cells
  obtain ⟨c3, c4⟩ := hSa.mb.leaf
  clear hS hky
  go_wp2_with fail
  refine (sl2 _).mono ?_
  rintro r wb ⟨rfl, hb⟩
  have hSb := hSa.later hb
  have ht := hSb.pr.there 11 4 (by decide)
  have hS := hSb.upd (hSb.pr.set2 (bx m.lf m.p2))
  clear hSa hb y0 y1 c3 c4 sl2
  go_upto_region 6 with (refine stM (cs := bxl (bx m.lf m.p2)) ht Wi.szBox rfl rfl _ _ rfl rfl rfl ?_)
  generalize wb.setCells P 11 (bxl (bx m.lf m.p2)) = wc at *
  clear hSb ht
  go_wp2_with fail
  rw [rounds_succ]
  have hre := hS.re
  go_wp2_with (first | (refine ldRp hS.pr rfl _ rfl rfl rfl ?_) | (refine stRp hre (rpOf m) rfl rfl _ _ rfl rfl rfl ?_))
  refine bodyPost_ret (results_rp (p := 2) rfl _ _ K (rpOf m) rfl (hre.row (rpOf m))) rfl ?_
  exact ⟨rfl, Rt.setRow_below hS.gk hS.bel _⟩
end Go.Proofs.YtdghibimelhgjaaGreat.Rv
