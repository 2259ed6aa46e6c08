/- RvA, RvB, joined. -/
import Derived.Test.YtpimbpfefhkojaaGreatRvJ1
import Derived.Test.YtpimbpfefhkojaaGreatMbJ1
import Derived.Test.YtpimbpfefhkojaaGreatMbJ6
import Derived.Test.YtpimbpfefhkojaaGreatKeyJ
import Derived.Test.YtpimbpfefhkojaaGreatMbJ3
import Derived.Test.YtpimbpfefhkojaaGreatMbJ5
import Derived.Test.YtpimbpfefhkojaaGreatTrJ3
import Derived.BigRegion
/- Contracts: holdsSeat, Needs, Ask, of the program and of the document. -/
namespace Go.Proofs.YtpimbpfefhkojaaGreat.Rv
open Go.RowKit Go.Maps Mb
open Rt (Ky zK gd gv Gd pcs KyAt)
open Wi (gR gE gW gS gI gB gK ldM stM rd_guard ra_of th_of ra_later RdV itl stl)
set_option linter.unusedVariables false
set_option linter.unusedSimpArgs false

set_option maxRecDepth 100000 in
set_option maxHeartbeats 1000000 in
theorem holds_any (m : Mb) (w : World) : Calls Tryz.prog 21 #[.agg (mba m)] w fun r w' => r = .returned (.int .i64 (hsE m)) ∧ Below w.heap.size w w' := by
  have hS := MA.new w m
  have hB := below_alloc w (.cells (mba m) 39)
  have h1 := kind_any m
  obtain ⟨cm, hcm⟩ : ∃ c, mba m = c := ⟨_, rfl⟩
  have HC : Hid (mba m = cm) := hcm
  rw [hcm] at hS hB
  simp only [hcm] at h1
  rw [hcm]
  clear hcm
  have hk := hs_cases m
  go_enter Tryz.func21, Tryz.ntmps21
  go_upto_region 1 with (fail)
  generalize w.alloc (.cells cm 39) = w1 at *
  have HB : Hid (Below w.heap.size w w1) := hB
  clear hB
  obtain ⟨B, hBe⟩ : ∃ B, w.heap.size = B := ⟨_, rfl⟩
  rw [hBe] at hS ⊢
  clear hBe
  go_wp2_with (refine ldMb hS HC.out _ rfl rfl rfl ?_)
  refine (h1 _).mono ?_
  rintro r w2 ⟨rfl, hb2⟩
  have HB2 : Hid (Below w.heap.size w w2) := Wi.Below.join HB.out hb2
  clear hS h1 hb2 HB
  rcases hk with ⟨a, b⟩ | ⟨a, b⟩ | ⟨a, b⟩ | ⟨a | a, b⟩ <;> (rw [a]; have HE : Hid _ := b; clear a b; go_wp2_with fail; go_ret; exact ⟨ret_int HE.out.symm, HB2.out⟩)
/- A request in a block. -/
def rqa (a b : Int) : Array Value := #[.int .i64 a, .int .i64 b]
theorem infoRq : (Tryz.prog.info? 53).map (·.size) = some 2 := by kernel_rfl
def QAt (w : World) (B : Nat) (a b : Int) : Prop := w.heap[B]? = some (.cells (rqa a b) 53 (0, 0))
theorem rqa_one (a b : Int) : (rqa a b).all (·.oneCell') = true := by simp [rqa, Value.oneCell']
theorem QAt.later {w w' : World} {B : Nat} {a b : Int} (h : QAt w B a b) (hb : Below w.heap.size w w') : QAt w' B a b := row_later h hb
theorem QAt.new (w : World) (a b : Int) : QAt (w.alloc (.cells #[.int .i64 a, .int .i64 b] 53)) w.heap.size a b := heap_alloc_last w _
theorem QAt.cells {w : World} {B : Nat} {a b : Int} (h : QAt w B a b) : w.cell? ⟨B, 0, none⟩ = some (.int .i64 a) ∧ w.cell? ⟨B, 1, none⟩ = some (.int .i64 b) := ⟨cell_of_row w B 0 _ _ _ h, cell_of_row w B 1 _ _ _ h⟩
theorem QAt.var {w : World} {B : Nat} {a b : Int} (h : QAt w B a b) : (loadVar 53 ⟨B, 0, none⟩).run Tryz.prog w = .ok (.agg (rqa a b)) w := run_loadVar_row w B _ 53 _ _ _ h Tryz.underlying53 rfl infoRq
theorem QAt.row {w : World} {B : Nat} {a b : Int} (h : QAt w B a b) (a' b' : Int) : QAt (w.setRow B (rqa a' b')) B a' b' := Rt.heap_setRow_same h _
def AskA (m : Mb) : Ending := .returned (.tuple #[.agg (rqa (akW m) (akP m)), .int .i64 (hsE m)])
theorem AskA.yes {m : Mb} (h : hsE m = 0) : Ending.returned (.tuple #[.agg (rqa m.who m.ep), .int .i64 0]) = AskA m := by unfold AskA akW akP; rw [h, if_pos rfl, if_pos rfl]
theorem AskA.no {m : Mb} {e : Int} (h : hsE m = e) (he : e ≠ 0) : Ending.returned (.tuple #[.agg (rqa 0 0), .int .i64 e]) = AskA m := by unfold AskA akW akP; rw [h, if_neg he, if_neg he]
structure SA (w W : World) (B K : Nat) (m : Mb) : Prop where
  mb : MA W B m
  re : QAt W K 0 0
  bel : Below w.heap.size w W
  ge : w.heap.size ≤ K
theorem SA.later {w W W' : World} {B K : Nat} {m : Mb} (h : SA w W B K m) (hb : Below W.heap.size W W') : SA w W' B K m := ⟨h.mb.later hb, h.re.later hb, h.bel.trans (hb.mono h.bel.size), h.ge⟩
theorem SA.new (w : World) (m : Mb) : SA w ((w.alloc (.cells (mba m) 39)).alloc (.cells #[.int .i64 0, .int .i64 0] 53)) w.heap.size (w.heap.size + 1) m := by
  have h2 := QAt.new (w.alloc (.cells (mba m) 39)) 0 0
  rw [World.size_alloc] at h2
  exact ⟨(MA.new w m).later (below_alloc _ _), h2, Wi.Below.plus (below_alloc _ _) _, by omega⟩
set_option maxRecDepth 100000 in
set_option maxHeartbeats 1000000 in
theorem ask_any (m : Mb) (w : World) : Calls Tryz.prog 8 #[.agg (mba m)] w fun r w' => r = AskA m ∧ Below w.heap.size w w' := by
  have HA0 : Hid (hsE m = 0 → Ending.returned (.tuple #[.agg (rqa m.who m.ep), .int .i64 0]) = AskA m) := AskA.yes
  have HA1 : Hid (∀ e, hsE m = e → e ≠ 0 → Ending.returned (.tuple #[.agg (rqa 0 0), .int .i64 e]) = AskA m) := fun e => AskA.no
  have hS := SA.new w m
  have h1 := holds_any m
  obtain ⟨e, he⟩ : ∃ e, hsE m = e := ⟨_, rfl⟩
  have HE : Hid (hsE m = e) := he
  simp only [he] at h1
  clear he
  obtain ⟨cm, hcm⟩ : ∃ c, mba m = c := ⟨_, rfl⟩
  have HC : Hid (mba m = cm) := hcm
  rw [hcm] at hS
  simp only [hcm] at h1
  rw [hcm]
  clear hcm
  go_enter Tryz.func8, Tryz.ntmps8
  go_upto_region 1 with (fail)
  generalize (w.alloc (.cells cm 39)).alloc (.cells #[.int .i64 0, .int .i64 0] 53) = w1 at *
  obtain ⟨K, hK⟩ : ∃ K, w.heap.size + 1 = K := ⟨_, rfl⟩
  obtain ⟨B, hB⟩ : ∃ B, w.heap.size = B := ⟨_, rfl⟩
  rw [hK, hB] at hS ⊢
  clear hK hB
  go_wp2_with (refine ldMb hS.mb HC.out _ rfl rfl rfl ?_)
  refine (h1 _).mono ?_
  rintro r w2 ⟨rfl, hb2⟩
  have hS2 := hS.later hb2
  have HBL : Hid (Below w.heap.size w w2) := hS2.bel
  have HGE : Hid (w.heap.size ≤ K) := hS2.ge
  have HK : Hid (QAt w2 K 0 0) := hS2.re
  have c0 := hS2.mb.who
  have c2 := hS2.mb.ep
  clear hS hb2 h1 hS2
  by_cases he : e = 0
  · subst he
    have HA : Hid _ := HA0.out HE.out
    clear HA1 HA0 HE HC
    generalize m.who = x at *
    generalize m.ep = y at *
    go_wp2_with (refine stRow infoRq (cs := rqa 0 0) rfl HK.out (rqa x y) rfl (rqa_one _ _) rfl _ _ rfl rfl rfl ?_)
    refine bodyPost_ret (resRow (p := 2) (t := 3) rfl _ _ K (rqa x y) rfl (HK.out.row x y).var) rfl ?_
    exact ⟨HA.out, Rt.setRow_below HGE.out HBL.out _⟩
  · have d0 : (e != 0) = true := by simpa using he
    have HA : Hid _ := HA1.out e HE.out he
    clear HA1 HA0 HE HC he
    go_wp2_with (refine stRow infoRq (cs := rqa 0 0) rfl HK.out (rqa 0 0) rfl (rqa_one _ _) rfl _ _ rfl rfl rfl ?_)
    refine bodyPost_ret (resRow (p := 2) (t := 3) rfl _ _ K (rqa 0 0) rfl (HK.out.row 0 0).var) rfl ?_
    exact ⟨HA.out, Rt.setRow_below HGE.out HBL.out _⟩
end Go.Proofs.YtpimbpfefhkojaaGreat.Rv
/- Replies in memory; contracts: replyTo, Answer of both. MADE by wip/mk_rv.py. -/
namespace Go.Proofs.YtpimbpfefhkojaaGreat.Rv
open Go.RowKit Go.Maps Mb
open Rt (Ky zK gd gv Gd gd_iff pcs KyAt)
open Wi (gR gE gW gS gI gB gK gP zP ldM stM rd_guard ra_of th_of ra_later RdV itl stl bxl)
set_option linter.unusedVariables false
set_option linter.unusedSimpArgs false

def rpa (p : Rp) : Array Value := (Wi.rpl p).toArray
def RA (w : World) (B : Nat) (p : Rp) : Prop := w.heap[B]? = some (.cells (rpa p) 60 (0, 0))
theorem infoRp : (Tryz.prog.info? 60).map (·.size) = some 15 := by kernel_rfl
theorem rpa_one (p : Rp) : (rpa p).all (·.oneCell') = true := by simp [rpa, Wi.rpl, Value.oneCell']
theorem RA.later {w w' : World} {B : Nat} {p : Rp} (h : RA w B p) (hb : Below w.heap.size w w') : RA w' B p := row_later h hb
theorem RA.new (w : World) (p : Rp) : RA (w.alloc (.cells (rpa p) 60)) w.heap.size p := heap_alloc_last w _
theorem RA.all {w : World} {B : Nat} {p : Rp} (h : RA w B p) : w.rangeAt B 0 (Wi.rpl p) := ra_of h 0 (Wi.rpl p) rfl
theorem RA.there {w : World} {B : Nat} {p : Rp} (h : RA w B p) (o n : Nat) (e : o + n ≤ 15) : w.there B o n := th_of h o n e
theorem RA.who {w : World} {B : Nat} {p : Rp} (h : RA w B p) : w.cell? ⟨B, 0, none⟩ = some (.int .i64 p.1.1) := (cell_of_row w B 0 _ _ _ h).trans rfl
theorem RA.slt {w : World} {B : Nat} {p : Rp} (h : RA w B p) : w.cell? ⟨B, 1, none⟩ = some (.int .i64 p.1.2) := (cell_of_row w B 1 _ _ _ h).trans rfl
theorem RA.ep {w : World} {B : Nat} {p : Rp} (h : RA w B p) : w.cell? ⟨B, 2, none⟩ = some (.int .i64 p.2.1) := (cell_of_row w B 2 _ _ _ h).trans rfl
theorem RA.b0 {w : World} {B : Nat} {p : Rp} (h : RA w B p) : w.rangeAt B 3 (bxl p.2.2.1) := ra_of h 3 _ rfl
theorem RA.b1 {w : World} {B : Nat} {p : Rp} (h : RA w B p) : w.rangeAt B 7 (bxl p.2.2.2.1) := ra_of h 7 _ rfl
theorem RA.b2 {w : World} {B : Nat} {p : Rp} (h : RA w B p) : w.rangeAt B 11 (bxl p.2.2.2.2) := ra_of h 11 _ rfl
theorem RA.var {w : World} {B : Nat} {p : Rp} (h : RA w B p) : (loadVar 60 ⟨B, 0, none⟩).run Tryz.prog w = .ok (.agg (rpa p)) w := run_loadVar_row w B _ 60 _ _ _ h Tryz.underlying60 rfl infoRp
theorem RA.row {w : World} {B : Nat} {p : Rp} (h : RA w B p) (q : Rp) : RA (w.setRow B (rpa q)) B q := Rt.heap_setRow_same h _
theorem RA.set0 {w : World} {B : Nat} {p : Rp} (h : RA w B p) (b : (Int × Int) × (Int × Int)) : RA (w.setCells B 3 (bxl b)) B (p.1, (p.2.1, (b, p.2.2.2))) := Wi.row_upd (bxl b) 3 h
theorem RA.set1 {w : World} {B : Nat} {p : Rp} (h : RA w B p) (b : (Int × Int) × (Int × Int)) : RA (w.setCells B 7 (bxl b)) B (p.1, (p.2.1, (p.2.2.1, (b, p.2.2.2.2)))) := Wi.row_upd (bxl b) 7 h
theorem RA.set2 {w : World} {B : Nat} {p : Rp} (h : RA w B p) (b : (Int × Int) × (Int × Int)) : RA (w.setCells B 11 (bxl b)) B (p.1, (p.2.1, (p.2.2.1, (p.2.2.2.1, b)))) := Wi.row_upd (bxl b) 11 h
/- Loaded, stored. -/
theorem ldRp {ops : Array Oper} {rest : List Oper} {o : Oper} {a : Act} {w : World} {Q : Exit → Act → World → Prop} {B : Nat} {p : Rp} {c : Array Value} (h : RA w B p) (hc : rpa p = c) (x : Operand) (ho : o.op = .load 60 x) (hx : a.eval x = .pointer (some ⟨B, 0, none⟩)) (hw : Region.wanted o (yielded ops a.tmps) = true)
    (k : wpList Tryz.prog ops Q rest (a.put o.dst (.agg c)) w) : wpList Tryz.prog ops Q (o :: rest) a w := by
  subst hc
  exact ldM h.all Tryz.underlying60 rfl infoRp x ho hx hw k
theorem stRp {ops : Array Oper} {rest : List Oper} {o : Oper} {a : Act} {w : World} {Q : Exit → Act → World → Prop} {B : Nat} {p : Rp} (h : RA w B p) (q : Rp) {c : Array Value} (hc : rpa q = c) (hgd : o.guard = none) (x y : Operand) (ho : o.op = .store 60 x y) (hx : a.eval x = .pointer (some ⟨B, 0, none⟩)) (hy : a.eval y = .agg c)
    (k : wpList Tryz.prog ops Q rest (a.put o.dst undef) (w.setRow B (rpa q))) : wpList Tryz.prog ops Q (o :: rest) a w := by
  subst hc
  exact stRow infoRp (cs := rpa p) rfl h (rpa q) rfl (rpa_one q) hgd x y ho hx hy k
theorem stRpn {ops : Array Oper} {rest : List Oper} {o : Oper} {a : Act} {w : World} {Q : Exit → Act → World → Prop} (p q : Rp) {c d : Array Value} (hd : rpa p = d) (hc : rpa q = c) (hgd : o.guard = none) (x y : Operand) (ho : o.op = .store 60 x y) (hx : a.eval x = .pointer (some ⟨w.heap.size, 0, none⟩)) (hy : a.eval y = .agg c)
    (k : wpList Tryz.prog ops Q rest (a.put o.dst undef) (w.alloc (.cells (rpa q) 60))) : wpList Tryz.prog ops Q (o :: rest) a (w.alloc (.cells d 60)) := by
  subst hd hc
  refine stRp (RA.new w p) q rfl hgd x y ho hx hy ?_
  rw [World.setRow_alloc_new]
  exact k
theorem px0 (a b c : Ky) (w : World) : (Instr.index 37 (.agg (pal a b c).toArray) (.int .i64 0)).run Tryz.prog w = .ok (.agg #[.int .i64 a.bas, .int .i64 a.stp]) w := by kernel_rfl
theorem px1 (a b c : Ky) (w : World) : (Instr.index 37 (.agg (pal a b c).toArray) (.int .i64 1)).run Tryz.prog w = .ok (.agg #[.int .i64 b.bas, .int .i64 b.stp]) w := by kernel_rfl
theorem px2 (a b c : Ky) (w : World) : (Instr.index 37 (.agg (pal a b c).toArray) (.int .i64 2)).run Tryz.prog w = .ok (.agg #[.int .i64 c.bas, .int .i64 c.stp]) w := by kernel_rfl
theorem rpa_zero : (#[.int .i64 0, .int .i64 0, .int .i64 0, .int .i64 0, .int .i64 0, .int .i64 0, .int .i64 0, .int .i64 0, .int .i64 0, .int .i64 0, .int .i64 0, .int .i64 0, .int .i64 0, .int .i64 0, .int .i64 0] : Array Value) = rpa zP := rfl
def rp0 (a b c : Int) : Rp := ((a, b), (c, (((0, 0), (0, 0)), (((0, 0), (0, 0)), ((0, 0), (0, 0))))))
theorem rpa_0 (a b c : Int) : (#[.int .i64 a, .int .i64 b, .int .i64 c, .int .i64 0, .int .i64 0, .int .i64 0, .int .i64 0, .int .i64 0, .int .i64 0, .int .i64 0, .int .i64 0, .int .i64 0, .int .i64 0, .int .i64 0, .int .i64 0] : Array Value) = rpa (rp0 a b c) := rfl
theorem results_rp {fn : Func} {p : Tmp} (hf : fn.results = #[.cell p 60 ]) (tmps : Array Value) (W : World) (B : Nat) (q : Rp) (hp : tmps[p]? = some (.pointer (some ⟨B, 0, none⟩))) (h : RA W B q) :
    (results fn tmps).run Tryz.prog W = .ok (.agg (rpa q)) W := by
  simp [results, hf, hp, asAddr, h.var]
structure SR (w W : World) (B K P : Nat) (m : Mb) (p : Rp) : Prop where
  mb : MA W B m
  re : RA W K zP
  pr : RA W P p
  bel : Below w.heap.size w W
  gk : w.heap.size ≤ K
  gp : w.heap.size ≤ P
  n1 : B ≠ P
  n2 : K ≠ P
theorem SR.later {w W W' : World} {B K P : Nat} {m : Mb} {p : Rp} (h : SR w W B K P m p) (hb : Below W.heap.size W W') : SR w W' B K P m p := ⟨h.mb.later hb, h.re.later hb, h.pr.later hb, h.bel.trans (hb.mono h.bel.size), h.gk, h.gp, h.n1, h.n2⟩
theorem SR.upd {w W : World} {B K P : Nat} {m : Mb} {p : Rp} (h : SR w W B K P m p) {o : Nat} {vs : List Value} {q : Rp} (hq : RA (W.setCells P o vs) P q) : SR w (W.setCells P o vs) B K P m q := ⟨(Wi.other_upd h.n1 vs o).trans h.mb, (Wi.other_upd h.n2 vs o).trans h.re, hq, Wi.upd_below h.gp vs o h.bel, h.gk, h.gp, h.n1, h.n2⟩
theorem SR.alloc {w W : World} {B K : Nat} {m : Mb} (hm : MA W B m) (hr : RA W K zP) (hb : Below w.heap.size w W) (hk : w.heap.size ≤ K) (p : Rp) : SR w (W.alloc (.cells (rpa p) 60)) B K W.heap.size m p :=
  ⟨hm.later (below_alloc _ _), hr.later (below_alloc _ _), RA.new W p, Wi.Below.plus hb _, hk, hb.size, Nat.ne_of_lt hm.lt, Nat.ne_of_lt (Wi.row_lt hr)⟩
theorem seal_k {a b : Ky} (ha : gk a = true) (hb : gk b = true) (w : World) : Calls Tryz.prog 50 #[.agg #[.int .i64 a.bas, .int .i64 a.stp], .agg #[.int .i64 b.bas, .int .i64 b.stp]] w fun r w' => r = .returned (.tuple #[.agg #[.int .i64 a.bas, .int .i64 a.stp, .int .i64 b.bas, .int .i64 b.stp], .int .i64 0]) ∧ Below w.heap.size w w' :=
  Rt.seal_yes a.bas a.stp b.bas b.stp (gd_iff.1 ha) (gd_iff.1 hb) w
set_option maxRecDepth 100000 in
set_option maxHeartbeats 2000000 in
theorem replyTo_any (m : Mb) (hk : knd m = 3) (w : World) : Calls Tryz.prog 24 #[.agg (mba m)] w fun r w' => r = .returned (.agg (rpa (rpOf m))) ∧ Below w.heap.size w w' := by
  obtain ⟨g, hg0, hg1, hg2⟩ : gk m.lf = true ∧ gk m.p0 = true ∧ gk m.p1 = true ∧ gk m.p2 = true := by
    obtain ⟨hs, ⟨_, h2, _⟩ | ⟨_, _, h0, h1, h2⟩⟩ := knd_sat (.inr hk)
    · rw [hk] at h2; cases h2
    · exact ⟨hs.lf, h0, h1, h2⟩
  have sl0 := seal_k g hg0
  have sl1 := seal_k g hg1
  have sl2 := seal_k g hg2
  have px0 := px0 m.p0 m.p1 m.p2
  have px1 := px1 m.p0 m.p1 m.p2
  have px2 := px2 m.p0 m.p1 m.p2
  clear hk g hg0 hg1 hg2
  have hM := (MA.new w m).later (below_alloc (w.alloc (.cells (mba m) 39)) (.cells (rpa zP) 60))
  have hR := RA.new (w.alloc (.cells (mba m) 39)) zP
  have hB := Wi.Below.plus (below_alloc w (.cells (mba m) 39)) (.cells (rpa zP) 60)
  rw [World.size_alloc] at hR
  obtain ⟨cm, hcm⟩ : ∃ c, mba m = c := ⟨_, rfl⟩
  have HC : Hid (mba m = cm) := hcm
  rw [hcm] at hM hR hB
  rw [hcm]
  clear hcm
  go_enter Tryz.func24, Tryz.ntmps24
  go_upto_region 1 with (fail)
  rw [rpa_zero]
  generalize (w.alloc (.cells cm 39)).alloc (.cells (rpa zP) 60) = w1 at *
  have hS := SR.alloc hM hR hB (by omega) (rp0 m.who m.slt m.ep)
  obtain ⟨K, hK⟩ : ∃ K, w.heap.size + 1 = K := ⟨_, rfl⟩
  obtain ⟨B, hBe⟩ : ∃ B, w.heap.size = B := ⟨_, rfl⟩
  rw [hBe] at hM
  have HBe : Hid (w.heap.size = B) := hBe
  rw [hK] at hS ⊢
  have hS : SR w (w1.alloc (.cells (rpa (rp0 m.who m.slt m.ep)) 60)) B K w1.heap.size m (rp0 m.who m.slt m.ep) := by have h := hS; rw [← hBe]; exact h
  rw [hBe]
  have c0 := hM.who
  have c1 := hM.slt
  have c2 := hM.ep
  clear hM hR hB hK hBe HBe
  go_upto_region 2 with (refine stRpn zP (rp0 m.who m.slt m.ep) rfl rfl rfl _ _ rfl rfl rfl ?_)
  clear c0 c1 c2
  generalize w1.alloc (.cells (rpa (rp0 m.who m.slt m.ep)) 60) = wc at *
  generalize w1.heap.size = P at *
  go_wp2_with (refine ldPa hS.mb _ rfl rfl rfl ?_)
  refine wp_loop_rounds 4 ?_
  have hSa := hS.later (below_alloc wc (.cells #[.int .i64 m.p0.bas, .int .i64 m.p0.stp] 23))
  have hky := KyAt.new wc m.p0
  rw [rounds_succ]
  go_upto_region 5 with (fail)
  generalize wc.alloc (.cells #[.int .i64 m.p0.bas, .int .i64 m.p0.stp] 23) = wa at *
  generalize wc.heap.size = Y at *
  obtain ⟨y0, y1⟩ := hky.cells
  obtain ⟨c3, c4⟩ := hSa.mb.leaf
  clear hS hky
  go_wp2_with fail
  refine (sl0 _).mono ?_
  rintro r wb ⟨rfl, hb⟩
  have hSb := hSa.later hb
  have ht := hSb.pr.there 3 4 (by decide)
  have hS := hSb.upd (hSb.pr.set0 (bx m.lf m.p0))
  clear hSa hb y0 y1 c3 c4 sl0
  go_upto_region 6 with (refine stM (cs := bxl (bx m.lf m.p0)) ht Wi.szBox rfl rfl _ _ rfl rfl rfl ?_)
  generalize wb.setCells P 3 (bxl (bx m.lf m.p0)) = wc at *
  clear hSb ht
  go_wp2_with fail
  have hSa := hS.later (below_alloc wc (.cells #[.int .i64 m.p1.bas, .int .i64 m.p1.stp] 23))
  have hky := KyAt.new wc m.p1
  rw [rounds_succ]
  go_upto_region 5 with (fail)
  generalize wc.alloc (.cells #[.int .i64 m.p1.bas, .int .i64 m.p1.stp] 23) = wa at *
  generalize wc.heap.size = Y at *
  obtain ⟨y0, y1⟩ := hky.cells
  obtain ⟨c3, c4⟩ := hSa.mb.leaf
  clear hS hky
  go_wp2_with fail
  refine (sl1 _).mono ?_
  rintro r wb ⟨rfl, hb⟩
  have hSb := hSa.later hb
  have ht := hSb.pr.there 7 4 (by decide)
  have hS := hSb.upd (hSb.pr.set1 (bx m.lf m.p1))
  clear hSa hb y0 y1 c3 c4 sl1
  go_upto_region 6 with (refine stM (cs := bxl (bx m.lf m.p1)) ht Wi.szBox rfl rfl _ _ rfl rfl rfl ?_)
  generalize wb.setCells P 7 (bxl (bx m.lf m.p1)) = wc at *
  clear hSb ht
  go_wp2_with fail
  have hSa := hS.later (below_alloc wc (.cells #[.int .i64 m.p2.bas, .int .i64 m.p2.stp] 23))
  have hky := KyAt.new wc m.p2
  rw [rounds_succ]
  go_upto_region 5 with (fail)
  generalize wc.alloc (.cells #[.int .i64 m.p2.bas, .int .i64 m.p2.stp] 23) = wa at *
  generalize wc.heap.size = Y at *
  obtain ⟨y0, y1⟩ := hky.cells
  obtain ⟨c3, c4⟩ := hSa.mb.leaf
  clear hS hky
  go_wp2_with fail
  refine (sl2 _).mono ?_
  rintro r wb ⟨rfl, hb⟩
  have hSb := hSa.later hb
  have ht := hSb.pr.there 11 4 (by decide)
  have hS := hSb.upd (hSb.pr.set2 (bx m.lf m.p2))
  clear hSa hb y0 y1 c3 c4 sl2
  go_upto_region 6 with (refine stM (cs := bxl (bx m.lf m.p2)) ht Wi.szBox rfl rfl _ _ rfl rfl rfl ?_)
  generalize wb.setCells P 11 (bxl (bx m.lf m.p2)) = wc at *
  clear hSb ht
  go_wp2_with fail
  rw [rounds_succ]
  have hre := hS.re
  go_wp2_with (first | (refine ldRp hS.pr rfl _ rfl rfl rfl ?_) | (refine stRp hre (rpOf m) rfl rfl _ _ rfl rfl rfl ?_))
  refine bodyPost_ret (results_rp (p := 2) rfl _ _ K (rpOf m) rfl (hre.row (rpOf m))) rfl ?_
  exact ⟨rfl, Rt.setRow_below hS.gk hS.bel _⟩
end Go.Proofs.YtpimbpfefhkojaaGreat.Rv
