/- Contract: the document's Take. MADE by wip/mk_rvg.py. -/
import Derived.Test.YtdghibimelhgjaaGreatRvF
import Derived.Test.YtdghibimelhgjaaGreatRvC
import Derived.Test.YtdghibimelhgjaaGreatMbJ6
import Derived.Test.YtdghibimelhgjaaGreatWiI
import Derived.Test.YtdghibimelhgjaaGreatRtK
import Derived.BigQuiet
namespace Go.Proofs.YtdghibimelhgjaaGreat.Rv
open Go.RowKit Go.Maps Mb
open Rt (Ky zK gd gv Gd gd_iff pcs KyAt)
open Wi (gR gE gW gS gI gB gK gP zP zR zQ zD ldM rd_guard ra_of th_of ra_later RdV itl stl bxl Msg gM MR mgv)
set_option linter.unusedVariables false
set_option linter.unusedSimpArgs false

theorem rOpen_y {b : Bx} {k : Ky} (hb : gB b = true) (hk : gk k = true) (h : opn b k = true) (w : World) : Calls Tryz.prog 33 #[.agg #[.int .i64 b.1.1, .int .i64 b.1.2, .int .i64 b.2.1, .int .i64 b.2.2], .agg #[.int .i64 k.bas, .int .i64 k.stp]] w fun r w' => r = .returned (.tuple #[.agg #[.int .i64 (ldK b).bas, .int .i64 (ldK b).stp], .int .i64 0]) ∧ Below w.heap.size w w' :=
  Rt.rOpen_yes _ _ _ _ _ _ (gd_iff.1 (Wi.gB_iff.1 hb).1) (gd_iff.1 (Wi.gB_iff.1 hb).2) (gd_iff.1 hk) h w
theorem rOpen_n {b : Bx} {k : Ky} (hb : gB b = true) (hk : gk k = true) (h : opn b k = false) (w : World) : Calls Tryz.prog 33 #[.agg #[.int .i64 b.1.1, .int .i64 b.1.2, .int .i64 b.2.1, .int .i64 b.2.2], .agg #[.int .i64 k.bas, .int .i64 k.stp]] w fun r w' => r = .returned (.tuple #[.agg #[.int .i64 zK.bas, .int .i64 zK.stp], .int .i64 5]) ∧ Below w.heap.size w w' :=
  Rt.rOpen_off _ _ _ _ _ _ (gd_iff.1 (Wi.gB_iff.1 hb).1) (gd_iff.1 (Wi.gB_iff.1 hb).2) (gd_iff.1 hk) h w
/- The state of the walk: the state, the reply, the answer, the new state, the advanced key. -/
structure SL (w W : World) (B R K N L : Nat) (m : Mb) (p : Rp) (n : Mb) (l : Ky) : Prop where
  sk : SK w W B R K m p
  nb : MA W N n
  ky : KyAt W L l
  gn : w.heap.size ≤ N
  n1 : B ≠ N
  n2 : K ≠ N
  n3 : R ≠ N
  n4 : L ≠ N
theorem SL.later {w W W' : World} {B R K N L : Nat} {m : Mb} {p : Rp} {n : Mb} {l : Ky} (h : SL w W B R K N L m p n l) (hb : Below W.heap.size W W') : SL w W' B R K N L m p n l := ⟨h.sk.later hb, h.nb.later hb, h.ky.later hb, h.gn, h.n1, h.n2, h.n3, h.n4⟩
theorem SL.setN {w W : World} {B R K N L : Nat} {m : Mb} {p : Rp} {n n' : Mb} {l : Ky} (h : SL w W B R K N L m p n l) {k : Nat} {v : Value} (hn : MA (W.setCell ⟨N, k, none⟩ v) N n') : SL w (W.setCell ⟨N, k, none⟩ v) B R K N L m p n' l :=
  ⟨⟨(Rt.other_setCell h.n1 _ _).trans h.sk.mb, (Rt.other_setCell h.n3 _ _).trans h.sk.rp, (Rt.other_setCell h.n2 _ _).trans h.sk.re, h.sk.bel.setCell (p := ⟨N, k, none⟩) h.gn v, h.sk.gb, h.sk.gk, h.sk.ne, h.sk.nr⟩, hn, (Rt.other_setCell h.n4 _ _).trans h.ky, h.gn, h.n1, h.n2, h.n3, h.n4⟩
theorem SL.upd2 {w W : World} {B R K N L : Nat} {m : Mb} {p : Rp} {n n' : Mb} {l : Ky} (h : SL w W B R K N L m p n l) {i j : Nat} {u v : Value} (hn : MA ((W.setCell ⟨N, i, none⟩ u).setCell ⟨N, j, none⟩ v) N n') : SL w ((W.setCell ⟨N, i, none⟩ u).setCell ⟨N, j, none⟩ v) B R K N L m p n' l :=
  ⟨⟨two_other h.sk.mb h.n1 _ _ _ _, two_other h.sk.rp h.n3 _ _ _ _, two_other h.sk.re h.n2 _ _ _ _, two_bel h.sk.bel h.gn _ _ _ _, h.sk.gb, h.sk.gk, h.sk.ne, h.sk.nr⟩, hn, two_other h.ky h.n4 _ _ _ _, h.gn, h.n1, h.n2, h.n3, h.n4⟩
theorem ma_3 {w : World} {B : Nat} {m : Mb} (h : MA w B m) (l : Ky) (e : Int) : MA ((((w.setCell ⟨B, 3, none⟩ (.int .i64 l.bas)).setCell ⟨B, 4, none⟩ (.int .i64 l.stp)).setCell ⟨B, 2, none⟩ (.int .i64 e)).setCell ⟨B, 11, none⟩ (.bool true)) B ⟨m.who, m.slt, e, l, m.p0, m.p1, m.p2, true, m.out, m.bh⟩ :=
  Rt.row_setCell (Rt.row_setCell (Rt.row_setCell (Rt.row_setCell h 3 (.int .i64 l.bas)) 4 (.int .i64 l.stp)) 2 (.int .i64 e)) 11 (.bool true)
def k0 (m : Mb) (k : Ky) : Mb := ⟨m.who, m.slt, m.ep, m.lf, k, m.p1, m.p2, m.has, m.out, m.bh⟩
def k1 (m : Mb) (k : Ky) : Mb := ⟨m.who, m.slt, m.ep, m.lf, m.p0, k, m.p2, m.has, m.out, m.bh⟩
def k2 (m : Mb) (k : Ky) : Mb := ⟨m.who, m.slt, m.ep, m.lf, m.p0, m.p1, k, m.has, m.out, m.bh⟩
theorem ma_k0 {w : World} {B : Nat} {m : Mb} (h : MA w B m) (k : Ky) : MA ((w.setCell ⟨B, 5, none⟩ (.int .i64 k.bas)).setCell ⟨B, 6, none⟩ (.int .i64 k.stp)) B (k0 m k) := Rt.row_setCell (Rt.row_setCell h 5 (.int .i64 k.bas)) 6 (.int .i64 k.stp)
theorem ma_k1 {w : World} {B : Nat} {m : Mb} (h : MA w B m) (k : Ky) : MA ((w.setCell ⟨B, 7, none⟩ (.int .i64 k.bas)).setCell ⟨B, 8, none⟩ (.int .i64 k.stp)) B (k1 m k) := Rt.row_setCell (Rt.row_setCell h 7 (.int .i64 k.bas)) 8 (.int .i64 k.stp)
theorem ma_k2 {w : World} {B : Nat} {m : Mb} (h : MA w B m) (k : Ky) : MA ((w.setCell ⟨B, 9, none⟩ (.int .i64 k.bas)).setCell ⟨B, 10, none⟩ (.int .i64 k.stp)) B (k2 m k) := Rt.row_setCell (Rt.row_setCell h 9 (.int .i64 k.bas)) 10 (.int .i64 k.stp)
theorem SL.upd4 {w W : World} {B R K N L : Nat} {m : Mb} {p : Rp} {n : Mb} {l : Ky} (h : SL w W B R K N L m p n l) (k : Ky) (e : Int) : SL w ((((W.setCell ⟨N, 3, none⟩ (.int .i64 k.bas)).setCell ⟨N, 4, none⟩ (.int .i64 k.stp)).setCell ⟨N, 2, none⟩ (.int .i64 e)).setCell ⟨N, 11, none⟩ (.bool true)) B R K N L m p ⟨n.who, n.slt, e, k, n.p0, n.p1, n.p2, true, n.out, n.bh⟩ l :=
  ⟨⟨two_other (two_other h.sk.mb h.n1 _ _ _ _) h.n1 _ _ _ _, two_other (two_other h.sk.rp h.n3 _ _ _ _) h.n3 _ _ _ _, two_other (two_other h.sk.re h.n2 _ _ _ _) h.n2 _ _ _ _, two_bel (two_bel h.sk.bel h.gn _ _ _ _) h.gn _ _ _ _, h.sk.gb, h.sk.gk, h.sk.ne, h.sk.nr⟩, ma_3 h.nb k e, two_other (two_other h.ky h.n4 _ _ _ _) h.n4 _ _ _ _, h.gn, h.n1, h.n2, h.n3, h.n4⟩
theorem ky_of {n : Nat} {w X : World} (h : Below n w (X.alloc (.cells #[.int .i64 0, .int .i64 0] 23))) : KyAt (X.alloc (.cells #[.int .i64 0, .int .i64 0] 23)) X.heap.size zK := heap_alloc_last X _
set_option maxRecDepth 100000 in
set_option maxHeartbeats 4000000 in
theorem rTake_any (m : Mb) (p : Rp) (w : World) : Calls Tryz.prog 16 #[.agg (mba m), .agg (rpa p)] w fun r w' => r = TkA m p ∧ Below w.heap.size w w' := by
  have h1 := rKind_any m
  have hgr : ∀ W : World, Calls Tryz.prog 31 #[.agg (rpa p)] W fun e w' => e = .returned (.bool (gP p)) ∧ Below W.heap.size W w' := Wi.rReply_any p
  have hS := SK.new w m p
  obtain ⟨cm, hcm⟩ : ∃ c, mba m = c := ⟨_, rfl⟩
  have HM : Hid (mba m = cm) := hcm
  rw [hcm] at hS
  simp only [hcm] at h1
  rw [hcm]
  clear hcm
  obtain ⟨cp, hcp⟩ : ∃ c, rpa p = c := ⟨_, rfl⟩
  have HP : Hid (rpa p = cp) := hcp
  rw [hcp] at hS
  simp only [hcp] at hgr
  rw [hcp]
  clear hcp
  go_enter Tryz.func16, Tryz.ntmps16
  go_upto_region 1 with (fail)
  rw [zMb_eq]
  generalize ((w.alloc (.cells cm 27)).alloc (.cells cp 47)).alloc (.cells (mba zMb) 27) = w1 at *
  obtain ⟨K, hK⟩ : ∃ K, w.heap.size + 2 = K := ⟨_, rfl⟩
  obtain ⟨R, hR⟩ : ∃ K, w.heap.size + 1 = K := ⟨_, rfl⟩
  obtain ⟨B, hB⟩ : ∃ K, w.heap.size = K := ⟨_, rfl⟩
  have hS1 : SK w w1 B R K m p := by rw [← hB, ← hR, ← hK]; exact hS
  rw [hK, hR, hB]
  clear hR hB hK hS
  go_wp2_with (refine ldMb hS1.mb HM.out _ rfl rfl rfl ?_)
  refine (h1 _).mono ?_
  rintro r w2 ⟨rfl, hb2⟩
  have hS2 := hS1.later hb2
  clear h1 hb2 hS1
  have hkc : (∃ k : Int, knd m = k ∧ k < 1 ∧ hsE m = 30) ∨ (knd m = 1 ∧ hsE m = 20) ∨ (∃ k : Int, knd m = k ∧ ¬ k < 1 ∧ k ≠ 1 ∧ hsE m = 0) := by
    rcases hs_cases m with ⟨a, b⟩ | ⟨a, b⟩ | ⟨a, b⟩ | ⟨a | a, b⟩
    · exact .inr (.inl ⟨a, b⟩)
    · exact .inr (.inr ⟨_, a, by decide, by decide, b⟩)
    · exact .inr (.inr ⟨_, a, by decide, by decide, b⟩)
    · exact .inl ⟨_, a, by decide, b⟩
    · exact .inl ⟨_, a, by decide, b⟩
  rcases hkc with ⟨k, hk, hk1, he⟩ | ⟨hk, he⟩ | ⟨k, hk, hk1, hk2, he⟩
  · have HA : Hid _ := TkA.no (p := p) ((tk_1 (by rw [my_1 (by rw [he]; decide), he]; decide)).trans ((my_1 (by rw [he]; decide)).trans he)) (by decide)
    rw [hk]
    have d0 : decide (k < 1) = true := decide_eq_true hk1
    clear hk hk1 he hgr
    go_wp2_with (first | (refine ldMb hS2.mb HM.out _ rfl rfl rfl ?_) | (refine stMb hS2.re HM.out rfl _ _ rfl rfl rfl ?_))
    refine bodyPost_ret (resRow (p := 4) (t := 5) rfl _ _ K (mba m) rfl (hS2.re.row m).var) rfl ?_
    exact ⟨HA.out, Rt.setRow_below hS2.gk hS2.bel _⟩
  · have HA : Hid _ := TkA.no (p := p) ((tk_1 (by rw [my_1 (by rw [he]; decide), he]; decide)).trans ((my_1 (by rw [he]; decide)).trans he)) (by decide)
    rw [hk]
    clear hk he hgr
    go_wp2_with (first | (refine ldMb hS2.mb HM.out _ rfl rfl rfl ?_) | (refine stMb hS2.re HM.out rfl _ _ rfl rfl rfl ?_))
    refine bodyPost_ret (resRow (p := 4) (t := 5) rfl _ _ K (mba m) rfl (hS2.re.row m).var) rfl ?_
    exact ⟨HA.out, Rt.setRow_below hS2.gk hS2.bel _⟩
  · rw [hk]
    have d0 : decide (k < 1) = false := decide_eq_false hk1
    have d01 : (k == 1) = false := by simpa using hk2
    clear hk hk1 hk2
    obtain ⟨g, hg⟩ : ∃ g, gP p = g := ⟨_, rfl⟩
    simp only [hg] at hgr
    go_wp2_with (refine ldRp hS2.rp HP.out _ rfl rfl rfl ?_)
    refine (hgr _).mono ?_
    rintro r w3 ⟨rfl, hb3⟩
    have hS3 := hS2.later hb3
    clear hgr hb3 hS2 HP
    cases g with
    | false =>
      have HA : Hid _ := TkA.no ((tk_1 (by rw [my_2 he hg]; decide)).trans (my_2 he hg)) (by decide)
      clear he hg
      go_wp2_with (first | (refine ldMb hS3.mb HM.out _ rfl rfl rfl ?_) | (refine stMb hS3.re HM.out rfl _ _ rfl rfl rfl ?_))
      refine bodyPost_ret (resRow (p := 4) (t := 5) rfl _ _ K (mba m) rfl (hS3.re.row m).var) rfl ?_
      exact ⟨HA.out, Rt.setRow_below hS3.gk hS3.bel _⟩
    | true =>
      have c0 := hS3.mb.who
      have c1 := hS3.mb.slt
      have c2 := hS3.mb.ep
      have c3 := hS3.mb.has
      have r0 := hS3.rp.who
      have r1 := hS3.rp.slt
      have r2 := hS3.rp.ep
      have H3 : Hid (¬ (p.1.1 = m.who ∧ p.1.2 = m.slt) → Ending.returned (.tuple #[.agg (mba m), .int .i64 24]) = TkA m p) := fun h => TkA.no ((tk_1 (by rw [my_3 he hg h]; decide)).trans (my_3 he hg h)) (by decide)
      have H4 : Hid ((p.1.1 = m.who ∧ p.1.2 = m.slt) → (p.2.1 < m.ep ∨ (p.2.1 = m.ep ∧ m.has = true)) → Ending.returned (.tuple #[.agg (mba m), .int .i64 21]) = TkA m p) := fun h h2 => TkA.no ((tk_1 (by rw [my_4 he hg h h2]; decide)).trans (my_4 he hg h h2)) (by decide)
      have H5 : Hid ((p.1.1 = m.who ∧ p.1.2 = m.slt) → ¬ (p.2.1 < m.ep ∨ (p.2.1 = m.ep ∧ m.has = true)) → myE m p = 0) := fun h h2 => my_5 he hg h h2
      clear he hg
      generalize m.who = mw at *
      generalize m.slt = ms at *
      generalize m.ep = me at *
      generalize m.has = mh at *
      generalize p.1.1 = pw at *
      generalize p.1.2 = ps at *
      generalize p.2.1 = pe0 at *
      by_cases q1 : pw = mw
      · have d1 : (pw != mw) = false := by simpa using q1
        by_cases q2 : ps = ms
        · have d2 : (ps != ms) = false := by simpa using q2
          have H4 : Hid _ := H4.out ⟨q1, q2⟩
          have H5 : Hid _ := H5.out ⟨q1, q2⟩
          clear H3 q1 q2
          by_cases q3 : pe0 < me
          · have d3 : decide (pe0 < me) = true := decide_eq_true q3
            have HA : Hid _ := H4.out (.inl q3)
            clear H4 H5 q3
            go_upto_region 11 with (fail)
            go_wp2_with (first | (refine ldMb hS3.mb HM.out _ rfl rfl rfl ?_) | (refine stMb hS3.re HM.out rfl _ _ rfl rfl rfl ?_))
            refine bodyPost_ret (resRow (p := 4) (t := 5) rfl _ _ K (mba m) rfl (hS3.re.row m).var) rfl ?_
            exact ⟨HA.out, Rt.setRow_below hS3.gk hS3.bel _⟩
          · have d3 : decide (pe0 < me) = false := decide_eq_false q3
            by_cases q4 : pe0 = me ∧ mh = true
            · have d4 : (pe0 == me) = true := by simpa using q4.1
              have d5 := q4.2
              rw [d5] at c3
              have HA : Hid _ := H4.out (.inr q4)
              clear H4 H5 q3 q4 d5
              go_upto_region 11 with (fail)
              go_wp2_with (first | (refine ldMb hS3.mb HM.out _ rfl rfl rfl ?_) | (refine stMb hS3.re HM.out rfl _ _ rfl rfl rfl ?_))
              refine bodyPost_ret (resRow (p := 4) (t := 5) rfl _ _ K (mba m) rfl (hS3.re.row m).var) rfl ?_
              exact ⟨HA.out, Rt.setRow_below hS3.gk hS3.bel _⟩
            · have HMY : Hid (myE m p = 0) := H5.out (by rintro (h | h); exact q3 h; exact q4 h)
              obtain ⟨d4, hd4, hd5⟩ : ∃ d4, (pe0 == me) = d4 ∧ (d4 = true → mh = false) := ⟨_, rfl, fun h => by cases hm : mh with | false => rfl | true => exact absurd ⟨by simpa using h, hm⟩ q4⟩
              clear H4 H5 q3 q4
              go_upto_region 10 with (fail)
              go_cut [42] (fun s42 wx => s42 = .bool false ∧ wx = w3)
              case first =>
                cases d4 with
                | true =>
                  have e5 := hd5 rfl
                  rw [e5] at c3
                  clear hd5 e5
                  go_wp2_with fail
                  go_meet
                  case rel => exact ⟨rfl, rfl⟩
                | false =>
                  clear hd5
                  go_wp2_with fail
                  go_meet
                  case rel => exact ⟨rfl, rfl⟩
              case rest =>
                obtain ⟨rfl, hwc⟩ := hcut
                obtain rfl : w3 = wc := hwc.symm
                have hmy := HMY.out
                have hok := my_ok hmy
                have hge := hok.ge
                have hpe := hok.eps
                have hme := hok.sat.ep
                have hlf := hok.lf
                obtain ⟨hgs, hgE, g0, g1, g2⟩ := gP_iff.1 hok.gp
                have hw1 : IntKind.i64.wrap (p.2.1 - m.ep) = p.2.1 - m.ep := Rs.i64_fit _ (by omega) (by omega)
                have hNb := MA.new w3 m
                rw [HM.out] at hNb
                have hS4 := hS3.later (below_alloc w3 (.cells cm 27))
                have gn := hS3.bel.size
                have n1 := Nat.ne_of_lt hS3.mb.lt
                have n2 := Nat.ne_of_lt hS3.re.lt
                have n3 := Nat.ne_of_lt (Wi.row_lt hS3.rp)
                clear c0 c1 c2 c3 r0 r1 r2 hd5 hd4 d3 HMY d1 d2
                go_upto_region 13 with (first | (refine ldMb hS3.mb HM.out _ rfl rfl rfl ?_) | (refine stMn (w := w3) HM.out rfl _ _ rfl rfl rfl ?_))
                clear hS3
                generalize w3.alloc (.cells cm 27) = w4 at *
                generalize w3.heap.size = N at *
                have HN1 : Hid (w.heap.size ≤ N ∧ B ≠ N ∧ K ≠ N ∧ R ≠ N) := ⟨gn, n1, n2, n3⟩
                clear gn n1 n2 n3
                have c2 := hS4.mb.ep
                obtain ⟨c3, c4⟩ := hS4.mb.leaf
                have r2 := hS4.rp.ep
                by_cases hst : m.lf.stp + (p.2.1 - m.ep) ≤ 255
                · have hah := Rt.rAhead_yes m.lf.bas m.lf.stp (p.2.1 - m.ep) hlf (by omega) (by omega)
                  have HGL : Hid (gk (tkL m p) = true) := hok.leaf hst
                  have HA3 : Hid (opn3 p (tkL m p) = false → Ending.returned (.tuple #[.agg (mba m), .int .i64 5]) = TkA m p) := fun h => TkA.no (tk_3 hmy hst h) (by decide)
                  have HA4 : Hid (opn3 p (tkL m p) = true → Ending.returned (.tuple #[.agg (mba (arr m p.2.1 (tkL m p) (ldK p.2.2.1) (ldK p.2.2.2.1) (ldK p.2.2.2.2))), .int .i64 0]) = TkA m p) := fun h => TkA.yes (tk_4 hmy hst h)
                  obtain ⟨l, hl⟩ : ∃ l, tkL m p = l := ⟨_, rfl⟩
                  have hah : ∀ W : World, Calls Tryz.prog 32 #[.agg #[.int .i64 m.lf.bas, .int .i64 m.lf.stp], .int .i64 (p.2.1 - m.ep)] W fun e w' => e = .returned (.tuple #[.agg #[.int .i64 l.bas, .int .i64 l.stp], .int .i64 0]) ∧ Below W.heap.size W w' := fun W => by rw [← hl]; exact hah W
                  rw [hl] at HA3 HA4 HGL
                  have HGB0 : Hid (gB p.2.2.1 = true) := g0
                  have HGB1 : Hid (gB p.2.2.2.1 = true) := g1
                  have HGB2 : Hid (gB p.2.2.2.2 = true) := g2
                  clear hl hok hge hpe hme hlf hgs hgE g0 g1 g2 hmy hst
                  obtain ⟨df, hdf⟩ : ∃ d, p.2.1 - m.ep = d := ⟨_, rfl⟩
                  rw [hdf] at hw1
                  simp only [hdf] at hah
                  have hw1 : IntKind.i64.wrap (p.2.1 - m.ep) = df := by rw [hdf]; exact hw1
                  clear hdf
                  go_wp2_with fail
                  refine (hah _).mono ?_
                  rintro r w5 ⟨rfl, hb5⟩
                  have hS6 := (hS4.later hb5).later (below_alloc w5 (.cells #[.int .i64 l.bas, .int .i64 l.stp] 23))
                  have hN6 := (hNb.later hb5).later (below_alloc w5 (.cells #[.int .i64 l.bas, .int .i64 l.stp] 23))
                  have hky := KyAt.new w5 l
                  clear hb5 hS4 c2 c3 c4 r2 hw1 hah hNb
                  go_upto_region 14 with (fail)
                  generalize w5.alloc (.cells #[.int .i64 l.bas, .int .i64 l.stp] 23) = w6 at *
                  generalize w5.heap.size = L at *
                  obtain ⟨b0, hb0⟩ : ∃ k, p.2.2.1 = k := ⟨_, rfl⟩
                  obtain ⟨b1, hb1⟩ : ∃ k, p.2.2.2.1 = k := ⟨_, rfl⟩
                  obtain ⟨b2, hb2⟩ : ∃ k, p.2.2.2.2 = k := ⟨_, rfl⟩
                  obtain ⟨pe, hpe⟩ : ∃ k, p.2.1 = k := ⟨_, rfl⟩
                  have HB0 : Hid (p.2.2.1 = b0) := hb0
                  have HB1 : Hid (p.2.2.2.1 = b1) := hb1
                  have HB2 : Hid (p.2.2.2.2 = b2) := hb2
                  have HPE : Hid (p.2.1 = pe) := hpe
                  rw [hb0, hb1, hb2, hpe] at HA4
                  rw [hb0] at HGB0
                  rw [hb1] at HGB1
                  rw [hb2] at HGB2
                  clear hb0 hb1 hb2 hpe
                  have hSL : SL w w6 B R K N L m p m l := ⟨hS6, hN6, hky, HN1.out.1, HN1.out.2.1, HN1.out.2.2.1, HN1.out.2.2.2, block_ne hky hN6 (by decide)⟩
                  clear hS6 hN6 hky
                  go_upto_region 16 with (fail)
                  have hSD := hSL.later (drew_below _)
                  clear hSL
                  have HSD : Hid (SL w w6.drew B R K N L m p m l) := hSD
                  have z2 := hSD.nb.ep
                  obtain ⟨z3, z4⟩ := hSD.nb.leaf
                  have z11 := hSD.nb.has
                  have y2 := hSD.nb.fr 2
                  have y3 := hSD.nb.fr 3
                  have y4 := hSD.nb.fr 4
                  have y11 := hSD.nb.fr 11
                  have hS0 : RA w6.drew R p ∧ KyAt w6.drew L l := ⟨hSD.sk.rp, hSD.ky⟩
                  have HNE : Hid (R ≠ N ∧ L ≠ N) := ⟨hSD.n3, hSD.n4⟩
                  clear hSD
                  refine wp_region_held_drew (S := fun W => RA W R p ∧ KyAt W L l) (by kernel_rfl) hS0 (fun hHeld => ?_)
                  clear hS0
                  generalize w6.drew = wd at *
                  refine wpAnyH_take (i := 0) (oi := { dst := some 75, op := Op.load 23 (Operand.tmp 8), type := _, pos := _, after := _, guard := none }) (v := .agg #[.int .i64 l.bas, .int .i64 l.stp]) rfl (by kernel_rfl) (by kernel_rfl) (by kernel_rfl) (fun _ _ _ h => h) (Or.inl ⟨by rfl, fun w hSw => by obtain ⟨c0, c1⟩ := hSw.2.cells; clear hSw z2 z3 z4 z11 y2 y3 y4 y11; go_simp⟩) (by assumption) ?_
                  simp only [Act.put, List.setIfInBounds_toArray, List.set_cons_zero, List.set_cons_succ]
                  refine wpAnyH_take (i := 1) (oi := { dst := some 76, op := Op.fieldAddr 47 (Operand.tmp 3) 2, type := _, pos := _, after := _, guard := none }) (v := .pointer (some ⟨R, 2, none⟩)) rfl (by kernel_rfl) (by kernel_rfl) (by kernel_rfl) (fun _ _ _ h => h) (Or.inl ⟨by rfl, fun w hSw => by (try dsimp only at hSw); go_simp⟩) (by assumption) ?_
                  simp only [Act.put, List.setIfInBounds_toArray, List.set_cons_zero, List.set_cons_succ]
                  refine wpAnyH_take (i := 2) (oi := { dst := some 77, op := Op.load 3 (Operand.tmp 76), type := _, pos := _, after := _, guard := none }) (v := .int .i64 pe) rfl (by kernel_rfl) (by kernel_rfl) (by kernel_rfl) (fun _ _ _ h => h) (Or.inl ⟨by rfl, fun w hSw => by have h := hSw.1.ep; rw [HPE.out] at h; clear hSw z2 z3 z4 z11 y2 y3 y4 y11; go_simp⟩) (by assumption) ?_
                  simp only [Act.put, List.setIfInBounds_toArray, List.set_cons_zero, List.set_cons_succ]
                  refine wpAnyH_take (i := 3) (oi := { dst := some 78, op := Op.fieldAddr 27 (Operand.tmp 7) 3, type := _, pos := _, after := _, guard := none }) (v := .pointer (some ⟨N, 3, none⟩)) rfl (by kernel_rfl) (by kernel_rfl) (by kernel_rfl) (fun _ _ _ h => h) (Or.inl ⟨by rfl, fun w hSw => by (try dsimp only at hSw); go_simp⟩) (by assumption) ?_
                  simp only [Act.put, List.setIfInBounds_toArray, List.set_cons_zero, List.set_cons_succ]
                  refine wpAnyH_ready (rs := [4]) (by kernel_rfl) (by simp) ?_
                  refine AllReadyH.cons rfl (fun K hK => ?_) AllReadyH.nil
                  go_simp
                  refine hK.out _ _ ⟨two_other hHeld.1 HNE.out.1 _ _ _ _, two_other hHeld.2 HNE.out.2 _ _ _ _⟩ (fun hHeld2 => ?_)
                  clear hHeld
                  clear hK K
                  try simp only [Act.put, List.setIfInBounds_toArray, List.set_cons_zero, List.set_cons_succ]
                  refine wpAnyH_take (i := 5) (oi := { dst := some 79, op := Op.fieldAddr 27 (Operand.tmp 7) 2, type := _, pos := _, after := _, guard := none }) (v := .pointer (some ⟨N, 2, none⟩)) rfl (by kernel_rfl) (by kernel_rfl) (by kernel_rfl) (fun _ _ _ h => h) (Or.inl ⟨by rfl, fun w hSw => by (try dsimp only at hSw); go_simp⟩) (by assumption) ?_
                  simp only [Act.put, List.setIfInBounds_toArray, List.set_cons_zero, List.set_cons_succ]
                  refine wpAnyH_ready (rs := [6]) (by kernel_rfl) (by simp) ?_
                  refine AllReadyH.cons rfl (fun K hK => ?_) AllReadyH.nil
                  go_simp
                  refine hK.out _ _ ⟨(Rt.other_setCell HNE.out.1 _ _).trans hHeld2.1, (Rt.other_setCell HNE.out.2 _ _).trans hHeld2.2⟩ (fun hHeld3 => ?_)
                  clear hHeld2
                  clear hK K
                  try simp only [Act.put, List.setIfInBounds_toArray, List.set_cons_zero, List.set_cons_succ]
                  refine wpAnyH_take (i := 7) (oi := { dst := some 80, op := Op.fieldAddr 27 (Operand.tmp 7) 5, type := _, pos := _, after := _, guard := none }) (v := .pointer (some ⟨N, 11, none⟩)) rfl (by kernel_rfl) (by kernel_rfl) (by kernel_rfl) (fun _ _ _ h => h) (Or.inl ⟨by rfl, fun w hSw => by (try dsimp only at hSw); go_simp⟩) (by assumption) ?_
                  simp only [Act.put, List.setIfInBounds_toArray, List.set_cons_zero, List.set_cons_succ]
                  refine wpAnyH_ready (rs := [8]) (by kernel_rfl) (by simp) ?_
                  refine AllReadyH.cons rfl (fun K hK => ?_) AllReadyH.nil
                  go_simp
                  refine hK.out _ _ ⟨(Rt.other_setCell HNE.out.1 _ _).trans hHeld3.1, (Rt.other_setCell HNE.out.2 _ _).trans hHeld3.2⟩ (fun hHeld4 => ?_)
                  clear hHeld3
                  clear hK K
                  try simp only [Act.put, List.setIfInBounds_toArray, List.set_cons_zero, List.set_cons_succ]
                  refine wpAnyH_done (by kernel_rfl) ?_ _
                  clear z2 z3 z4 z11 y2 y3 y4 y11 hHeld4 HNE HPE
                  have hS := HSD.out.upd4 l pe
                  obtain ⟨n0, hn0⟩ : ∃ x : Mb, (⟨m.who, m.slt, pe, l, m.p0, m.p1, m.p2, true, m.out, m.bh⟩ : Mb) = x := ⟨_, rfl⟩
                  have HN0 : Hid ((⟨m.who, m.slt, pe, l, m.p0, m.p1, m.p2, true, m.out, m.bh⟩ : Mb) = n0) := hn0
                  rw [hn0] at hS
                  clear hn0 HSD
                  generalize (((wd.setCell ⟨N, 3, none⟩ (.int .i64 l.bas)).setCell ⟨N, 4, none⟩ (.int .i64 l.stp)).setCell ⟨N, 2, none⟩ (.int .i64 pe)).setCell ⟨N, 11, none⟩ (.bool true) = wv at *
                  go_wp2_with fail
                  refine wp_loop_rounds 4 ?_
                  rw [rounds_succ]
                  obtain ⟨kk, ke, hop, hkk⟩ : ∃ (kk : Ky) (ke : Int), (∀ W, Calls Tryz.prog 33 #[.agg #[.int .i64 b0.1.1, .int .i64 b0.1.2, .int .i64 b0.2.1, .int .i64 b0.2.2], .agg #[.int .i64 l.bas, .int .i64 l.stp]] W fun r w' => r = .returned (.tuple #[.agg #[.int .i64 kk.bas, .int .i64 kk.stp], .int .i64 ke]) ∧ Below W.heap.size W w') ∧ ((opn b0 l = true ∧ ke = 0 ∧ kk = ldK b0) ∨ (opn b0 l = false ∧ ke = 5)) := by
                    cases ho : opn b0 l with
                    | true => exact ⟨_, _, rOpen_y HGB0.out HGL.out ho, .inl ⟨rfl, rfl, rfl⟩⟩
                    | false => exact ⟨_, _, rOpen_n HGB0.out HGL.out ho, .inr ⟨rfl, rfl⟩⟩
                  have HKK : Hid _ := hkk
                  clear hkk
                  go_upto_region 20 with (fail)
                  go_cut [11, 12] (fun s11 s12 wx => ∃ X, s11 = .pointer (some ⟨X, 0, none⟩) ∧ s12 = .int .i64 ke ∧ SL w wx B R K N L m p n0 l ∧ KyAt wx X kk)
                  case first =>
                    have hS0 : SL w wv.drew B R K N L m p n0 l := hS.later (drew_below _)
                    refine wp_region_held_drew (S := fun W => SL w W B R K N L m p n0 l) (by kernel_rfl) hS0 (fun hHeld => ?_)
                    clear hS0 hS
                    generalize wv.drew = wd at *
                    refine wpAnyH_take (i := 0) (oi := { dst := some 86, op := Op.move (Operand.tmp 10), type := _, pos := _, after := _, guard := none }) (v := .int .i64 0) rfl (by kernel_rfl) (by kernel_rfl) (by kernel_rfl) (fun _ _ _ h => h) (Or.inl ⟨by rfl, fun w hSw => by (try dsimp only at hSw); go_simp⟩) (by assumption) ?_
                    simp only [Act.put, List.setIfInBounds_toArray, List.set_cons_zero, List.set_cons_succ]
                    refine wpAnyH_take (i := 1) (oi := { dst := some 87, op := Op.fieldAddr 47 (Operand.tmp 3) 3, type := _, pos := _, after := _, guard := none }) (v := .pointer (some ⟨R, 3, none⟩)) rfl (by kernel_rfl) (by kernel_rfl) (by kernel_rfl) (fun _ _ _ h => h) (Or.inl ⟨by rfl, fun w hSw => by (try dsimp only at hSw); go_simp⟩) (by assumption) ?_
                    simp only [Act.put, List.setIfInBounds_toArray, List.set_cons_zero, List.set_cons_succ]
                    refine wpAnyH_take (i := 2) (oi := { dst := some 88, op := Op.indexAddr 45 (Operand.tmp 87) (Operand.tmp 86), type := _, pos := _, after := _, guard := none }) (v := .pointer (some ⟨R, 3, none⟩)) rfl (by kernel_rfl) (by kernel_rfl) (by kernel_rfl) (fun _ _ _ h => h) (Or.inl ⟨by rfl, fun w hSw => by (try dsimp only at hSw); go_simp⟩) (by assumption) ?_
                    simp only [Act.put, List.setIfInBounds_toArray, List.set_cons_zero, List.set_cons_succ]
                    refine wpAnyH_take (i := 3) (oi := { dst := some 89, op := Op.load 44 (Operand.tmp 88), type := _, pos := _, after := _, guard := none }) (v := .agg #[.int .i64 b0.1.1, .int .i64 b0.1.2, .int .i64 b0.2.1, .int .i64 b0.2.2]) rfl (by kernel_rfl) (by kernel_rfl) (by kernel_rfl) (fun _ _ _ h => h) (Or.inl ⟨by rfl, fun w hSw => by have h := hSw.sk.rp.b0; rw [HB0.out] at h; exact Wi.ld_ex h Tryz.underlying44 rfl Wi.szBox rfl rfl⟩) (by assumption) ?_
                    simp only [Act.put, List.setIfInBounds_toArray, List.set_cons_zero, List.set_cons_succ]
                    refine wpAnyH_take (i := 4) (oi := { dst := some 90, op := Op.load 23 (Operand.tmp 8), type := _, pos := _, after := _, guard := none }) (v := .agg #[.int .i64 l.bas, .int .i64 l.stp]) rfl (by kernel_rfl) (by kernel_rfl) (by kernel_rfl) (fun _ _ _ h => h) (Or.inl ⟨by rfl, fun w hSw => by obtain ⟨c0, c1⟩ := hSw.ky.cells; clear hSw; go_simp⟩) (by assumption) ?_
                    simp only [Act.put, List.setIfInBounds_toArray, List.set_cons_zero, List.set_cons_succ]
                    refine wpAnyH_ready (rs := [5, 9]) (by kernel_rfl) (by simp) ?_
                    refine (AllReadyH.cons rfl (fun K hK => ?_) (AllReadyH.cons rfl (fun K hK => ?_) AllReadyH.nil))
                    · go_simp
                      refine (hop _).mono ?_
                      rintro e w7 ⟨rfl, hb7⟩
                      go_wp2_with fail
                      try (have hz := hz.later hb7)
                      refine hK.out _ _ (hHeld.later hb7) (fun hHd1 => ?_)
                      clear hHeld hb7
                      clear hK K
                      try simp only [Act.put, List.setIfInBounds_toArray, List.set_cons_zero, List.set_cons_succ]
                      refine wpAnyH_take (i := 6) (oi := { dst := some 85, op := Op.move (Operand.tmp 91), type := _, pos := _, after := _, guard := none }) (v := .tuple #[.agg #[.int .i64 kk.bas, .int .i64 kk.stp], .int .i64 ke]) rfl (by kernel_rfl) (by kernel_rfl) (by kernel_rfl) (fun _ _ _ h => h) (Or.inl ⟨by rfl, fun w hSw => by (try dsimp only at hSw); go_simp⟩) (by assumption) ?_
                      simp only [Act.put, List.setIfInBounds_toArray, List.set_cons_zero, List.set_cons_succ]
                      refine wpAnyH_take (i := 7) (oi := { dst := some 92, op := Op.extract (Operand.tmp 85) 0, type := _, pos := _, after := _, guard := none }) (v := .agg #[.int .i64 kk.bas, .int .i64 kk.stp]) rfl (by kernel_rfl) (by kernel_rfl) (by kernel_rfl) (fun _ _ _ h => h) (Or.inl ⟨by rfl, fun w hSw => by (try dsimp only at hSw); go_simp⟩) (by assumption) ?_
                      simp only [Act.put, List.setIfInBounds_toArray, List.set_cons_zero, List.set_cons_succ]
                      refine wpAnyH_take (i := 8) (oi := { dst := some 93, op := Op.extract (Operand.tmp 85) 1, type := _, pos := _, after := _, guard := none }) (v := .int .i64 ke) rfl (by kernel_rfl) (by kernel_rfl) (by kernel_rfl) (fun _ _ _ h => h) (Or.inl ⟨by rfl, fun w hSw => by (try dsimp only at hSw); go_simp⟩) (by assumption) ?_
                      simp only [Act.put, List.setIfInBounds_toArray, List.set_cons_zero, List.set_cons_succ]
                      refine wpAnyH_ready (rs := [9]) (by kernel_rfl) (by simp) ?_
                      refine AllReadyH.cons rfl (fun K hK => ?_) AllReadyH.nil
                      go_simp
                      have hgz := hHd1.sk.bel.size
                      have hn1 := Nat.ne_of_lt hHd1.sk.mb.lt
                      have hn2 := Nat.ne_of_lt hHd1.sk.re.lt
                      have hn3 := Nat.ne_of_lt (Wi.row_lt hHd1.sk.rp)
                      have hn4 := Nat.ne_of_lt hHd1.nb.lt
                      have hn5 := Nat.ne_of_lt (Wi.row_lt hHd1.ky)
                      refine hK.out _ _ (hHd1.later (below_alloc _ _)) (fun hHd2 => ?_)
                      have hz := ky_of hHd2.sk.bel
                      clear hHd1
                      clear hK K
                      try simp only [Act.put, List.setIfInBounds_toArray, List.set_cons_zero, List.set_cons_succ]
                      refine wpAnyH_ready (rs := [10]) (by kernel_rfl) (by simp) ?_
                      refine AllReadyH.cons rfl (fun Kc hK => ?_) AllReadyH.nil
                      refine if_wp rfl (wp_stMid0 23 _ _ rfl _ 0 [.int .i64 kk.bas, .int .i64 kk.stp] rfl rfl (th_of hz 0 2 (by decide)) Wi.szKey rfl rfl ?_)
                      have hzZ := Wi.row_upd [.int .i64 kk.bas, .int .i64 kk.stp] 0 hz
                      refine hK.out _ _ ⟨⟨(Wi.other_upd hn1 _ _).trans hHd2.sk.mb, (Wi.other_upd hn3 _ _).trans hHd2.sk.rp, (Wi.other_upd hn2 _ _).trans hHd2.sk.re, Wi.upd_below hgz _ _ hHd2.sk.bel, hHd2.sk.gb, hHd2.sk.gk, hHd2.sk.ne, hHd2.sk.nr⟩, (Wi.other_upd hn4 _ _).trans hHd2.nb, (Wi.other_upd hn5 _ _).trans hHd2.ky, hHd2.gn, hHd2.n1, hHd2.n2, hHd2.n3, hHd2.n4⟩ (fun hHd3 => ?_)
                      clear hHd2
                      clear hK Kc
                      try simp only [Act.put, List.setIfInBounds_toArray, List.set_cons_zero, List.set_cons_succ]
                      refine wpAnyH_take (i := 11) (oi := { dst := some 12, op := Op.assign (Operand.tmp 93), type := _, pos := _, after := _, guard := none }) (v := .int .i64 ke) rfl (by kernel_rfl) (by kernel_rfl) (by kernel_rfl) (fun _ _ _ h => h) (Or.inl ⟨by rfl, fun w hSw => by (try dsimp only at hSw); go_simp⟩) (by assumption) ?_
                      simp only [Act.put, List.setIfInBounds_toArray, List.set_cons_zero, List.set_cons_succ]
                      refine wpAnyH_done (by kernel_rfl) ?_ _
                      go_wp2_with fail
                      go_meet
                      case rel => exact ⟨_, rfl, rfl, hHd3, hzZ⟩
                    · go_simp
                      have hgz := hHeld.sk.bel.size
                      have hn1 := Nat.ne_of_lt hHeld.sk.mb.lt
                      have hn2 := Nat.ne_of_lt hHeld.sk.re.lt
                      have hn3 := Nat.ne_of_lt (Wi.row_lt hHeld.sk.rp)
                      have hn4 := Nat.ne_of_lt hHeld.nb.lt
                      have hn5 := Nat.ne_of_lt (Wi.row_lt hHeld.ky)
                      refine hK.out _ _ (hHeld.later (below_alloc _ _)) (fun hHd1 => ?_)
                      have hz := ky_of hHd1.sk.bel
                      clear hHeld
                      clear hK K
                      try simp only [Act.put, List.setIfInBounds_toArray, List.set_cons_zero, List.set_cons_succ]
                      refine wpAnyH_ready (rs := [5]) (by kernel_rfl) (by simp) ?_
                      refine AllReadyH.cons rfl (fun K hK => ?_) AllReadyH.nil
                      go_simp
                      refine (hop _).mono ?_
                      rintro e w7 ⟨rfl, hb7⟩
                      go_wp2_with fail
                      try (have hz := hz.later hb7)
                      refine hK.out _ _ (hHd1.later hb7) (fun hHd2 => ?_)
                      clear hHd1 hb7
                      clear hK K
                      try simp only [Act.put, List.setIfInBounds_toArray, List.set_cons_zero, List.set_cons_succ]
                      refine wpAnyH_take (i := 6) (oi := { dst := some 85, op := Op.move (Operand.tmp 91), type := _, pos := _, after := _, guard := none }) (v := .tuple #[.agg #[.int .i64 kk.bas, .int .i64 kk.stp], .int .i64 ke]) rfl (by kernel_rfl) (by kernel_rfl) (by kernel_rfl) (fun _ _ _ h => h) (Or.inl ⟨by rfl, fun w hSw => by (try dsimp only at hSw); go_simp⟩) (by assumption) ?_
                      simp only [Act.put, List.setIfInBounds_toArray, List.set_cons_zero, List.set_cons_succ]
                      refine wpAnyH_take (i := 7) (oi := { dst := some 92, op := Op.extract (Operand.tmp 85) 0, type := _, pos := _, after := _, guard := none }) (v := .agg #[.int .i64 kk.bas, .int .i64 kk.stp]) rfl (by kernel_rfl) (by kernel_rfl) (by kernel_rfl) (fun _ _ _ h => h) (Or.inl ⟨by rfl, fun w hSw => by (try dsimp only at hSw); go_simp⟩) (by assumption) ?_
                      simp only [Act.put, List.setIfInBounds_toArray, List.set_cons_zero, List.set_cons_succ]
                      refine wpAnyH_take (i := 8) (oi := { dst := some 93, op := Op.extract (Operand.tmp 85) 1, type := _, pos := _, after := _, guard := none }) (v := .int .i64 ke) rfl (by kernel_rfl) (by kernel_rfl) (by kernel_rfl) (fun _ _ _ h => h) (Or.inl ⟨by rfl, fun w hSw => by (try dsimp only at hSw); go_simp⟩) (by assumption) ?_
                      simp only [Act.put, List.setIfInBounds_toArray, List.set_cons_zero, List.set_cons_succ]
                      refine wpAnyH_ready (rs := [10]) (by kernel_rfl) (by simp) ?_
                      refine AllReadyH.cons rfl (fun Kc hK => ?_) AllReadyH.nil
                      refine if_wp rfl (wp_stMid0 23 _ _ rfl _ 0 [.int .i64 kk.bas, .int .i64 kk.stp] rfl rfl (th_of hz 0 2 (by decide)) Wi.szKey rfl rfl ?_)
                      have hzZ := Wi.row_upd [.int .i64 kk.bas, .int .i64 kk.stp] 0 hz
                      refine hK.out _ _ ⟨⟨(Wi.other_upd hn1 _ _).trans hHd2.sk.mb, (Wi.other_upd hn3 _ _).trans hHd2.sk.rp, (Wi.other_upd hn2 _ _).trans hHd2.sk.re, Wi.upd_below hgz _ _ hHd2.sk.bel, hHd2.sk.gb, hHd2.sk.gk, hHd2.sk.ne, hHd2.sk.nr⟩, (Wi.other_upd hn4 _ _).trans hHd2.nb, (Wi.other_upd hn5 _ _).trans hHd2.ky, hHd2.gn, hHd2.n1, hHd2.n2, hHd2.n3, hHd2.n4⟩ (fun hHd3 => ?_)
                      clear hHd2
                      clear hK Kc
                      try simp only [Act.put, List.setIfInBounds_toArray, List.set_cons_zero, List.set_cons_succ]
                      refine wpAnyH_take (i := 11) (oi := { dst := some 12, op := Op.assign (Operand.tmp 93), type := _, pos := _, after := _, guard := none }) (v := .int .i64 ke) rfl (by kernel_rfl) (by kernel_rfl) (by kernel_rfl) (fun _ _ _ h => h) (Or.inl ⟨by rfl, fun w hSw => by (try dsimp only at hSw); go_simp⟩) (by assumption) ?_
                      simp only [Act.put, List.setIfInBounds_toArray, List.set_cons_zero, List.set_cons_succ]
                      refine wpAnyH_done (by kernel_rfl) ?_ _
                      go_wp2_with fail
                      go_meet
                      case rel => exact ⟨_, rfl, rfl, hHd3, hzZ⟩
                  case rest =>
                    obtain ⟨X, rfl, rfl, hSc, hkX⟩ := hcut
                    clear hop hS
                    rcases HKK.out with ⟨ho, rfl, rfl⟩ | ⟨ho, rfl⟩
                    · have HO0 : Hid (opn b0 l = true) := ho
                      clear ho HKK
                      obtain ⟨y0, y1⟩ := hkX.cells
                      obtain ⟨⟨a5, a6⟩, ⟨a7, a8⟩, a9, a10⟩ := hSc.nb.key
                      have f0 := hSc.nb.fr 5
                      have f1 := hSc.nb.fr 6
                      have hS := hSc.upd2 (ma_k0 hSc.nb (ldK b0))
                      clear hSc hkX
                      go_upto_region 19 with (fail)
                      clear y0 y1 a5 a6 a7 a8 a9 a10 f0 f1
                      generalize (wc.setCell ⟨N, 5, none⟩ (.int .i64 (ldK b0).bas)).setCell ⟨N, 6, none⟩ (.int .i64 (ldK b0).stp) = wv at *
                      go_wp2_with fail
                      rw [rounds_succ]
                      obtain ⟨kk, ke, hop, hkk⟩ : ∃ (kk : Ky) (ke : Int), (∀ W, Calls Tryz.prog 33 #[.agg #[.int .i64 b1.1.1, .int .i64 b1.1.2, .int .i64 b1.2.1, .int .i64 b1.2.2], .agg #[.int .i64 l.bas, .int .i64 l.stp]] W fun r w' => r = .returned (.tuple #[.agg #[.int .i64 kk.bas, .int .i64 kk.stp], .int .i64 ke]) ∧ Below W.heap.size W w') ∧ ((opn b1 l = true ∧ ke = 0 ∧ kk = ldK b1) ∨ (opn b1 l = false ∧ ke = 5)) := by
                        cases ho : opn b1 l with
                        | true => exact ⟨_, _, rOpen_y HGB1.out HGL.out ho, .inl ⟨rfl, rfl, rfl⟩⟩
                        | false => exact ⟨_, _, rOpen_n HGB1.out HGL.out ho, .inr ⟨rfl, rfl⟩⟩
                      have HKK : Hid _ := hkk
                      clear hkk
                      go_upto_region 20 with (fail)
                      go_cut [11, 12] (fun s11 s12 wx => ∃ X, s11 = .pointer (some ⟨X, 0, none⟩) ∧ s12 = .int .i64 ke ∧ SL w wx B R K N L m p (k0 n0 (ldK b0)) l ∧ KyAt wx X kk)
                      case first =>
                        have hS0 : SL w wv.drew B R K N L m p (k0 n0 (ldK b0)) l := hS.later (drew_below _)
                        refine wp_region_held_drew (S := fun W => SL w W B R K N L m p (k0 n0 (ldK b0)) l) (by kernel_rfl) hS0 (fun hHeld => ?_)
                        clear hS0 hS
                        generalize wv.drew = wd at *
                        refine wpAnyH_take (i := 0) (oi := { dst := some 86, op := Op.move (Operand.tmp 10), type := _, pos := _, after := _, guard := none }) (v := .int .i64 1) rfl (by kernel_rfl) (by kernel_rfl) (by kernel_rfl) (fun _ _ _ h => h) (Or.inl ⟨by rfl, fun w hSw => by (try dsimp only at hSw); go_simp⟩) (by assumption) ?_
                        simp only [Act.put, List.setIfInBounds_toArray, List.set_cons_zero, List.set_cons_succ]
                        refine wpAnyH_take (i := 1) (oi := { dst := some 87, op := Op.fieldAddr 47 (Operand.tmp 3) 3, type := _, pos := _, after := _, guard := none }) (v := .pointer (some ⟨R, 3, none⟩)) rfl (by kernel_rfl) (by kernel_rfl) (by kernel_rfl) (fun _ _ _ h => h) (Or.inl ⟨by rfl, fun w hSw => by (try dsimp only at hSw); go_simp⟩) (by assumption) ?_
                        simp only [Act.put, List.setIfInBounds_toArray, List.set_cons_zero, List.set_cons_succ]
                        refine wpAnyH_take (i := 2) (oi := { dst := some 88, op := Op.indexAddr 45 (Operand.tmp 87) (Operand.tmp 86), type := _, pos := _, after := _, guard := none }) (v := .pointer (some ⟨R, 7, none⟩)) rfl (by kernel_rfl) (by kernel_rfl) (by kernel_rfl) (fun _ _ _ h => h) (Or.inl ⟨by rfl, fun w hSw => by (try dsimp only at hSw); go_simp⟩) (by assumption) ?_
                        simp only [Act.put, List.setIfInBounds_toArray, List.set_cons_zero, List.set_cons_succ]
                        refine wpAnyH_take (i := 3) (oi := { dst := some 89, op := Op.load 44 (Operand.tmp 88), type := _, pos := _, after := _, guard := none }) (v := .agg #[.int .i64 b1.1.1, .int .i64 b1.1.2, .int .i64 b1.2.1, .int .i64 b1.2.2]) rfl (by kernel_rfl) (by kernel_rfl) (by kernel_rfl) (fun _ _ _ h => h) (Or.inl ⟨by rfl, fun w hSw => by have h := hSw.sk.rp.b1; rw [HB1.out] at h; exact Wi.ld_ex h Tryz.underlying44 rfl Wi.szBox rfl rfl⟩) (by assumption) ?_
                        simp only [Act.put, List.setIfInBounds_toArray, List.set_cons_zero, List.set_cons_succ]
                        refine wpAnyH_take (i := 4) (oi := { dst := some 90, op := Op.load 23 (Operand.tmp 8), type := _, pos := _, after := _, guard := none }) (v := .agg #[.int .i64 l.bas, .int .i64 l.stp]) rfl (by kernel_rfl) (by kernel_rfl) (by kernel_rfl) (fun _ _ _ h => h) (Or.inl ⟨by rfl, fun w hSw => by obtain ⟨c0, c1⟩ := hSw.ky.cells; clear hSw; go_simp⟩) (by assumption) ?_
                        simp only [Act.put, List.setIfInBounds_toArray, List.set_cons_zero, List.set_cons_succ]
                        refine wpAnyH_ready (rs := [5, 9]) (by kernel_rfl) (by simp) ?_
                        refine (AllReadyH.cons rfl (fun K hK => ?_) (AllReadyH.cons rfl (fun K hK => ?_) AllReadyH.nil))
                        · go_simp
                          refine (hop _).mono ?_
                          rintro e w7 ⟨rfl, hb7⟩
                          go_wp2_with fail
                          try (have hz := hz.later hb7)
                          refine hK.out _ _ (hHeld.later hb7) (fun hHd1 => ?_)
                          clear hHeld hb7
                          clear hK K
                          try simp only [Act.put, List.setIfInBounds_toArray, List.set_cons_zero, List.set_cons_succ]
                          refine wpAnyH_take (i := 6) (oi := { dst := some 85, op := Op.move (Operand.tmp 91), type := _, pos := _, after := _, guard := none }) (v := .tuple #[.agg #[.int .i64 kk.bas, .int .i64 kk.stp], .int .i64 ke]) rfl (by kernel_rfl) (by kernel_rfl) (by kernel_rfl) (fun _ _ _ h => h) (Or.inl ⟨by rfl, fun w hSw => by (try dsimp only at hSw); go_simp⟩) (by assumption) ?_
                          simp only [Act.put, List.setIfInBounds_toArray, List.set_cons_zero, List.set_cons_succ]
                          refine wpAnyH_take (i := 7) (oi := { dst := some 92, op := Op.extract (Operand.tmp 85) 0, type := _, pos := _, after := _, guard := none }) (v := .agg #[.int .i64 kk.bas, .int .i64 kk.stp]) rfl (by kernel_rfl) (by kernel_rfl) (by kernel_rfl) (fun _ _ _ h => h) (Or.inl ⟨by rfl, fun w hSw => by (try dsimp only at hSw); go_simp⟩) (by assumption) ?_
                          simp only [Act.put, List.setIfInBounds_toArray, List.set_cons_zero, List.set_cons_succ]
                          refine wpAnyH_take (i := 8) (oi := { dst := some 93, op := Op.extract (Operand.tmp 85) 1, type := _, pos := _, after := _, guard := none }) (v := .int .i64 ke) rfl (by kernel_rfl) (by kernel_rfl) (by kernel_rfl) (fun _ _ _ h => h) (Or.inl ⟨by rfl, fun w hSw => by (try dsimp only at hSw); go_simp⟩) (by assumption) ?_
                          simp only [Act.put, List.setIfInBounds_toArray, List.set_cons_zero, List.set_cons_succ]
                          refine wpAnyH_ready (rs := [9]) (by kernel_rfl) (by simp) ?_
                          refine AllReadyH.cons rfl (fun K hK => ?_) AllReadyH.nil
                          go_simp
                          have hgz := hHd1.sk.bel.size
                          have hn1 := Nat.ne_of_lt hHd1.sk.mb.lt
                          have hn2 := Nat.ne_of_lt hHd1.sk.re.lt
                          have hn3 := Nat.ne_of_lt (Wi.row_lt hHd1.sk.rp)
                          have hn4 := Nat.ne_of_lt hHd1.nb.lt
                          have hn5 := Nat.ne_of_lt (Wi.row_lt hHd1.ky)
                          refine hK.out _ _ (hHd1.later (below_alloc _ _)) (fun hHd2 => ?_)
                          have hz := ky_of hHd2.sk.bel
                          clear hHd1
                          clear hK K
                          try simp only [Act.put, List.setIfInBounds_toArray, List.set_cons_zero, List.set_cons_succ]
                          refine wpAnyH_ready (rs := [10]) (by kernel_rfl) (by simp) ?_
                          refine AllReadyH.cons rfl (fun Kc hK => ?_) AllReadyH.nil
                          refine if_wp rfl (wp_stMid0 23 _ _ rfl _ 0 [.int .i64 kk.bas, .int .i64 kk.stp] rfl rfl (th_of hz 0 2 (by decide)) Wi.szKey rfl rfl ?_)
                          have hzZ := Wi.row_upd [.int .i64 kk.bas, .int .i64 kk.stp] 0 hz
                          refine hK.out _ _ ⟨⟨(Wi.other_upd hn1 _ _).trans hHd2.sk.mb, (Wi.other_upd hn3 _ _).trans hHd2.sk.rp, (Wi.other_upd hn2 _ _).trans hHd2.sk.re, Wi.upd_below hgz _ _ hHd2.sk.bel, hHd2.sk.gb, hHd2.sk.gk, hHd2.sk.ne, hHd2.sk.nr⟩, (Wi.other_upd hn4 _ _).trans hHd2.nb, (Wi.other_upd hn5 _ _).trans hHd2.ky, hHd2.gn, hHd2.n1, hHd2.n2, hHd2.n3, hHd2.n4⟩ (fun hHd3 => ?_)
                          clear hHd2
                          clear hK Kc
                          try simp only [Act.put, List.setIfInBounds_toArray, List.set_cons_zero, List.set_cons_succ]
                          refine wpAnyH_take (i := 11) (oi := { dst := some 12, op := Op.assign (Operand.tmp 93), type := _, pos := _, after := _, guard := none }) (v := .int .i64 ke) rfl (by kernel_rfl) (by kernel_rfl) (by kernel_rfl) (fun _ _ _ h => h) (Or.inl ⟨by rfl, fun w hSw => by (try dsimp only at hSw); go_simp⟩) (by assumption) ?_
                          simp only [Act.put, List.setIfInBounds_toArray, List.set_cons_zero, List.set_cons_succ]
                          refine wpAnyH_done (by kernel_rfl) ?_ _
                          go_wp2_with fail
                          go_meet
                          case rel => exact ⟨_, rfl, rfl, hHd3, hzZ⟩
                        · go_simp
                          have hgz := hHeld.sk.bel.size
                          have hn1 := Nat.ne_of_lt hHeld.sk.mb.lt
                          have hn2 := Nat.ne_of_lt hHeld.sk.re.lt
                          have hn3 := Nat.ne_of_lt (Wi.row_lt hHeld.sk.rp)
                          have hn4 := Nat.ne_of_lt hHeld.nb.lt
                          have hn5 := Nat.ne_of_lt (Wi.row_lt hHeld.ky)
                          refine hK.out _ _ (hHeld.later (below_alloc _ _)) (fun hHd1 => ?_)
                          have hz := ky_of hHd1.sk.bel
                          clear hHeld
                          clear hK K
                          try simp only [Act.put, List.setIfInBounds_toArray, List.set_cons_zero, List.set_cons_succ]
                          refine wpAnyH_ready (rs := [5]) (by kernel_rfl) (by simp) ?_
                          refine AllReadyH.cons rfl (fun K hK => ?_) AllReadyH.nil
                          go_simp
                          refine (hop _).mono ?_
                          rintro e w7 ⟨rfl, hb7⟩
                          go_wp2_with fail
                          try (have hz := hz.later hb7)
                          refine hK.out _ _ (hHd1.later hb7) (fun hHd2 => ?_)
                          clear hHd1 hb7
                          clear hK K
                          try simp only [Act.put, List.setIfInBounds_toArray, List.set_cons_zero, List.set_cons_succ]
                          refine wpAnyH_take (i := 6) (oi := { dst := some 85, op := Op.move (Operand.tmp 91), type := _, pos := _, after := _, guard := none }) (v := .tuple #[.agg #[.int .i64 kk.bas, .int .i64 kk.stp], .int .i64 ke]) rfl (by kernel_rfl) (by kernel_rfl) (by kernel_rfl) (fun _ _ _ h => h) (Or.inl ⟨by rfl, fun w hSw => by (try dsimp only at hSw); go_simp⟩) (by assumption) ?_
                          simp only [Act.put, List.setIfInBounds_toArray, List.set_cons_zero, List.set_cons_succ]
                          refine wpAnyH_take (i := 7) (oi := { dst := some 92, op := Op.extract (Operand.tmp 85) 0, type := _, pos := _, after := _, guard := none }) (v := .agg #[.int .i64 kk.bas, .int .i64 kk.stp]) rfl (by kernel_rfl) (by kernel_rfl) (by kernel_rfl) (fun _ _ _ h => h) (Or.inl ⟨by rfl, fun w hSw => by (try dsimp only at hSw); go_simp⟩) (by assumption) ?_
                          simp only [Act.put, List.setIfInBounds_toArray, List.set_cons_zero, List.set_cons_succ]
                          refine wpAnyH_take (i := 8) (oi := { dst := some 93, op := Op.extract (Operand.tmp 85) 1, type := _, pos := _, after := _, guard := none }) (v := .int .i64 ke) rfl (by kernel_rfl) (by kernel_rfl) (by kernel_rfl) (fun _ _ _ h => h) (Or.inl ⟨by rfl, fun w hSw => by (try dsimp only at hSw); go_simp⟩) (by assumption) ?_
                          simp only [Act.put, List.setIfInBounds_toArray, List.set_cons_zero, List.set_cons_succ]
                          refine wpAnyH_ready (rs := [10]) (by kernel_rfl) (by simp) ?_
                          refine AllReadyH.cons rfl (fun Kc hK => ?_) AllReadyH.nil
                          refine if_wp rfl (wp_stMid0 23 _ _ rfl _ 0 [.int .i64 kk.bas, .int .i64 kk.stp] rfl rfl (th_of hz 0 2 (by decide)) Wi.szKey rfl rfl ?_)
                          have hzZ := Wi.row_upd [.int .i64 kk.bas, .int .i64 kk.stp] 0 hz
                          refine hK.out _ _ ⟨⟨(Wi.other_upd hn1 _ _).trans hHd2.sk.mb, (Wi.other_upd hn3 _ _).trans hHd2.sk.rp, (Wi.other_upd hn2 _ _).trans hHd2.sk.re, Wi.upd_below hgz _ _ hHd2.sk.bel, hHd2.sk.gb, hHd2.sk.gk, hHd2.sk.ne, hHd2.sk.nr⟩, (Wi.other_upd hn4 _ _).trans hHd2.nb, (Wi.other_upd hn5 _ _).trans hHd2.ky, hHd2.gn, hHd2.n1, hHd2.n2, hHd2.n3, hHd2.n4⟩ (fun hHd3 => ?_)
                          clear hHd2
                          clear hK Kc
                          try simp only [Act.put, List.setIfInBounds_toArray, List.set_cons_zero, List.set_cons_succ]
                          refine wpAnyH_take (i := 11) (oi := { dst := some 12, op := Op.assign (Operand.tmp 93), type := _, pos := _, after := _, guard := none }) (v := .int .i64 ke) rfl (by kernel_rfl) (by kernel_rfl) (by kernel_rfl) (fun _ _ _ h => h) (Or.inl ⟨by rfl, fun w hSw => by (try dsimp only at hSw); go_simp⟩) (by assumption) ?_
                          simp only [Act.put, List.setIfInBounds_toArray, List.set_cons_zero, List.set_cons_succ]
                          refine wpAnyH_done (by kernel_rfl) ?_ _
                          go_wp2_with fail
                          go_meet
                          case rel => exact ⟨_, rfl, rfl, hHd3, hzZ⟩
                      case rest =>
                        obtain ⟨X, rfl, rfl, hSc, hkX⟩ := hcut
                        clear hop hS
                        rcases HKK.out with ⟨ho, rfl, rfl⟩ | ⟨ho, rfl⟩
                        · have HO1 : Hid (opn b1 l = true) := ho
                          clear ho HKK
                          obtain ⟨y0, y1⟩ := hkX.cells
                          obtain ⟨⟨a5, a6⟩, ⟨a7, a8⟩, a9, a10⟩ := hSc.nb.key
                          have f0 := hSc.nb.fr 7
                          have f1 := hSc.nb.fr 8
                          have hS := hSc.upd2 (ma_k1 hSc.nb (ldK b1))
                          clear hSc hkX
                          go_upto_region 19 with (fail)
                          clear y0 y1 a5 a6 a7 a8 a9 a10 f0 f1
                          generalize (wc.setCell ⟨N, 7, none⟩ (.int .i64 (ldK b1).bas)).setCell ⟨N, 8, none⟩ (.int .i64 (ldK b1).stp) = wv at *
                          go_wp2_with fail
                          rw [rounds_succ]
                          obtain ⟨kk, ke, hop, hkk⟩ : ∃ (kk : Ky) (ke : Int), (∀ W, Calls Tryz.prog 33 #[.agg #[.int .i64 b2.1.1, .int .i64 b2.1.2, .int .i64 b2.2.1, .int .i64 b2.2.2], .agg #[.int .i64 l.bas, .int .i64 l.stp]] W fun r w' => r = .returned (.tuple #[.agg #[.int .i64 kk.bas, .int .i64 kk.stp], .int .i64 ke]) ∧ Below W.heap.size W w') ∧ ((opn b2 l = true ∧ ke = 0 ∧ kk = ldK b2) ∨ (opn b2 l = false ∧ ke = 5)) := by
                            cases ho : opn b2 l with
                            | true => exact ⟨_, _, rOpen_y HGB2.out HGL.out ho, .inl ⟨rfl, rfl, rfl⟩⟩
                            | false => exact ⟨_, _, rOpen_n HGB2.out HGL.out ho, .inr ⟨rfl, rfl⟩⟩
                          have HKK : Hid _ := hkk
                          clear hkk
                          go_upto_region 20 with (fail)
                          go_cut [11, 12] (fun s11 s12 wx => ∃ X, s11 = .pointer (some ⟨X, 0, none⟩) ∧ s12 = .int .i64 ke ∧ SL w wx B R K N L m p (k1 (k0 n0 (ldK b0)) (ldK b1)) l ∧ KyAt wx X kk)
                          case first =>
                            have hS0 : SL w wv.drew B R K N L m p (k1 (k0 n0 (ldK b0)) (ldK b1)) l := hS.later (drew_below _)
                            refine wp_region_held_drew (S := fun W => SL w W B R K N L m p (k1 (k0 n0 (ldK b0)) (ldK b1)) l) (by kernel_rfl) hS0 (fun hHeld => ?_)
                            clear hS0 hS
                            generalize wv.drew = wd at *
                            refine wpAnyH_take (i := 0) (oi := { dst := some 86, op := Op.move (Operand.tmp 10), type := _, pos := _, after := _, guard := none }) (v := .int .i64 2) rfl (by kernel_rfl) (by kernel_rfl) (by kernel_rfl) (fun _ _ _ h => h) (Or.inl ⟨by rfl, fun w hSw => by (try dsimp only at hSw); go_simp⟩) (by assumption) ?_
                            simp only [Act.put, List.setIfInBounds_toArray, List.set_cons_zero, List.set_cons_succ]
                            refine wpAnyH_take (i := 1) (oi := { dst := some 87, op := Op.fieldAddr 47 (Operand.tmp 3) 3, type := _, pos := _, after := _, guard := none }) (v := .pointer (some ⟨R, 3, none⟩)) rfl (by kernel_rfl) (by kernel_rfl) (by kernel_rfl) (fun _ _ _ h => h) (Or.inl ⟨by rfl, fun w hSw => by (try dsimp only at hSw); go_simp⟩) (by assumption) ?_
                            simp only [Act.put, List.setIfInBounds_toArray, List.set_cons_zero, List.set_cons_succ]
                            refine wpAnyH_take (i := 2) (oi := { dst := some 88, op := Op.indexAddr 45 (Operand.tmp 87) (Operand.tmp 86), type := _, pos := _, after := _, guard := none }) (v := .pointer (some ⟨R, 11, none⟩)) rfl (by kernel_rfl) (by kernel_rfl) (by kernel_rfl) (fun _ _ _ h => h) (Or.inl ⟨by rfl, fun w hSw => by (try dsimp only at hSw); go_simp⟩) (by assumption) ?_
                            simp only [Act.put, List.setIfInBounds_toArray, List.set_cons_zero, List.set_cons_succ]
                            refine wpAnyH_take (i := 3) (oi := { dst := some 89, op := Op.load 44 (Operand.tmp 88), type := _, pos := _, after := _, guard := none }) (v := .agg #[.int .i64 b2.1.1, .int .i64 b2.1.2, .int .i64 b2.2.1, .int .i64 b2.2.2]) rfl (by kernel_rfl) (by kernel_rfl) (by kernel_rfl) (fun _ _ _ h => h) (Or.inl ⟨by rfl, fun w hSw => by have h := hSw.sk.rp.b2; rw [HB2.out] at h; exact Wi.ld_ex h Tryz.underlying44 rfl Wi.szBox rfl rfl⟩) (by assumption) ?_
                            simp only [Act.put, List.setIfInBounds_toArray, List.set_cons_zero, List.set_cons_succ]
                            refine wpAnyH_take (i := 4) (oi := { dst := some 90, op := Op.load 23 (Operand.tmp 8), type := _, pos := _, after := _, guard := none }) (v := .agg #[.int .i64 l.bas, .int .i64 l.stp]) rfl (by kernel_rfl) (by kernel_rfl) (by kernel_rfl) (fun _ _ _ h => h) (Or.inl ⟨by rfl, fun w hSw => by obtain ⟨c0, c1⟩ := hSw.ky.cells; clear hSw; go_simp⟩) (by assumption) ?_
                            simp only [Act.put, List.setIfInBounds_toArray, List.set_cons_zero, List.set_cons_succ]
                            refine wpAnyH_ready (rs := [5, 9]) (by kernel_rfl) (by simp) ?_
                            refine (AllReadyH.cons rfl (fun K hK => ?_) (AllReadyH.cons rfl (fun K hK => ?_) AllReadyH.nil))
                            · go_simp
                              refine (hop _).mono ?_
                              rintro e w7 ⟨rfl, hb7⟩
                              go_wp2_with fail
                              try (have hz := hz.later hb7)
                              refine hK.out _ _ (hHeld.later hb7) (fun hHd1 => ?_)
                              clear hHeld hb7
                              clear hK K
                              try simp only [Act.put, List.setIfInBounds_toArray, List.set_cons_zero, List.set_cons_succ]
                              refine wpAnyH_take (i := 6) (oi := { dst := some 85, op := Op.move (Operand.tmp 91), type := _, pos := _, after := _, guard := none }) (v := .tuple #[.agg #[.int .i64 kk.bas, .int .i64 kk.stp], .int .i64 ke]) rfl (by kernel_rfl) (by kernel_rfl) (by kernel_rfl) (fun _ _ _ h => h) (Or.inl ⟨by rfl, fun w hSw => by (try dsimp only at hSw); go_simp⟩) (by assumption) ?_
                              simp only [Act.put, List.setIfInBounds_toArray, List.set_cons_zero, List.set_cons_succ]
                              refine wpAnyH_take (i := 7) (oi := { dst := some 92, op := Op.extract (Operand.tmp 85) 0, type := _, pos := _, after := _, guard := none }) (v := .agg #[.int .i64 kk.bas, .int .i64 kk.stp]) rfl (by kernel_rfl) (by kernel_rfl) (by kernel_rfl) (fun _ _ _ h => h) (Or.inl ⟨by rfl, fun w hSw => by (try dsimp only at hSw); go_simp⟩) (by assumption) ?_
                              simp only [Act.put, List.setIfInBounds_toArray, List.set_cons_zero, List.set_cons_succ]
                              refine wpAnyH_take (i := 8) (oi := { dst := some 93, op := Op.extract (Operand.tmp 85) 1, type := _, pos := _, after := _, guard := none }) (v := .int .i64 ke) rfl (by kernel_rfl) (by kernel_rfl) (by kernel_rfl) (fun _ _ _ h => h) (Or.inl ⟨by rfl, fun w hSw => by (try dsimp only at hSw); go_simp⟩) (by assumption) ?_
                              simp only [Act.put, List.setIfInBounds_toArray, List.set_cons_zero, List.set_cons_succ]
                              refine wpAnyH_ready (rs := [9]) (by kernel_rfl) (by simp) ?_
                              refine AllReadyH.cons rfl (fun K hK => ?_) AllReadyH.nil
                              go_simp
                              have hgz := hHd1.sk.bel.size
                              have hn1 := Nat.ne_of_lt hHd1.sk.mb.lt
                              have hn2 := Nat.ne_of_lt hHd1.sk.re.lt
                              have hn3 := Nat.ne_of_lt (Wi.row_lt hHd1.sk.rp)
                              have hn4 := Nat.ne_of_lt hHd1.nb.lt
                              have hn5 := Nat.ne_of_lt (Wi.row_lt hHd1.ky)
                              refine hK.out _ _ (hHd1.later (below_alloc _ _)) (fun hHd2 => ?_)
                              have hz := ky_of hHd2.sk.bel
                              clear hHd1
                              clear hK K
                              try simp only [Act.put, List.setIfInBounds_toArray, List.set_cons_zero, List.set_cons_succ]
                              refine wpAnyH_ready (rs := [10]) (by kernel_rfl) (by simp) ?_
                              refine AllReadyH.cons rfl (fun Kc hK => ?_) AllReadyH.nil
                              refine if_wp rfl (wp_stMid0 23 _ _ rfl _ 0 [.int .i64 kk.bas, .int .i64 kk.stp] rfl rfl (th_of hz 0 2 (by decide)) Wi.szKey rfl rfl ?_)
                              have hzZ := Wi.row_upd [.int .i64 kk.bas, .int .i64 kk.stp] 0 hz
                              refine hK.out _ _ ⟨⟨(Wi.other_upd hn1 _ _).trans hHd2.sk.mb, (Wi.other_upd hn3 _ _).trans hHd2.sk.rp, (Wi.other_upd hn2 _ _).trans hHd2.sk.re, Wi.upd_below hgz _ _ hHd2.sk.bel, hHd2.sk.gb, hHd2.sk.gk, hHd2.sk.ne, hHd2.sk.nr⟩, (Wi.other_upd hn4 _ _).trans hHd2.nb, (Wi.other_upd hn5 _ _).trans hHd2.ky, hHd2.gn, hHd2.n1, hHd2.n2, hHd2.n3, hHd2.n4⟩ (fun hHd3 => ?_)
                              clear hHd2
                              clear hK Kc
                              try simp only [Act.put, List.setIfInBounds_toArray, List.set_cons_zero, List.set_cons_succ]
                              refine wpAnyH_take (i := 11) (oi := { dst := some 12, op := Op.assign (Operand.tmp 93), type := _, pos := _, after := _, guard := none }) (v := .int .i64 ke) rfl (by kernel_rfl) (by kernel_rfl) (by kernel_rfl) (fun _ _ _ h => h) (Or.inl ⟨by rfl, fun w hSw => by (try dsimp only at hSw); go_simp⟩) (by assumption) ?_
                              simp only [Act.put, List.setIfInBounds_toArray, List.set_cons_zero, List.set_cons_succ]
                              refine wpAnyH_done (by kernel_rfl) ?_ _
                              go_wp2_with fail
                              go_meet
                              case rel => exact ⟨_, rfl, rfl, hHd3, hzZ⟩
                            · go_simp
                              have hgz := hHeld.sk.bel.size
                              have hn1 := Nat.ne_of_lt hHeld.sk.mb.lt
                              have hn2 := Nat.ne_of_lt hHeld.sk.re.lt
                              have hn3 := Nat.ne_of_lt (Wi.row_lt hHeld.sk.rp)
                              have hn4 := Nat.ne_of_lt hHeld.nb.lt
                              have hn5 := Nat.ne_of_lt (Wi.row_lt hHeld.ky)
                              refine hK.out _ _ (hHeld.later (below_alloc _ _)) (fun hHd1 => ?_)
                              have hz := ky_of hHd1.sk.bel
                              clear hHeld
                              clear hK K
                              try simp only [Act.put, List.setIfInBounds_toArray, List.set_cons_zero, List.set_cons_succ]
                              refine wpAnyH_ready (rs := [5]) (by kernel_rfl) (by simp) ?_
                              refine AllReadyH.cons rfl (fun K hK => ?_) AllReadyH.nil
                              go_simp
                              refine (hop _).mono ?_
                              rintro e w7 ⟨rfl, hb7⟩
                              go_wp2_with fail
                              try (have hz := hz.later hb7)
                              refine hK.out _ _ (hHd1.later hb7) (fun hHd2 => ?_)
                              clear hHd1 hb7
                              clear hK K
                              try simp only [Act.put, List.setIfInBounds_toArray, List.set_cons_zero, List.set_cons_succ]
                              refine wpAnyH_take (i := 6) (oi := { dst := some 85, op := Op.move (Operand.tmp 91), type := _, pos := _, after := _, guard := none }) (v := .tuple #[.agg #[.int .i64 kk.bas, .int .i64 kk.stp], .int .i64 ke]) rfl (by kernel_rfl) (by kernel_rfl) (by kernel_rfl) (fun _ _ _ h => h) (Or.inl ⟨by rfl, fun w hSw => by (try dsimp only at hSw); go_simp⟩) (by assumption) ?_
                              simp only [Act.put, List.setIfInBounds_toArray, List.set_cons_zero, List.set_cons_succ]
                              refine wpAnyH_take (i := 7) (oi := { dst := some 92, op := Op.extract (Operand.tmp 85) 0, type := _, pos := _, after := _, guard := none }) (v := .agg #[.int .i64 kk.bas, .int .i64 kk.stp]) rfl (by kernel_rfl) (by kernel_rfl) (by kernel_rfl) (fun _ _ _ h => h) (Or.inl ⟨by rfl, fun w hSw => by (try dsimp only at hSw); go_simp⟩) (by assumption) ?_
                              simp only [Act.put, List.setIfInBounds_toArray, List.set_cons_zero, List.set_cons_succ]
                              refine wpAnyH_take (i := 8) (oi := { dst := some 93, op := Op.extract (Operand.tmp 85) 1, type := _, pos := _, after := _, guard := none }) (v := .int .i64 ke) rfl (by kernel_rfl) (by kernel_rfl) (by kernel_rfl) (fun _ _ _ h => h) (Or.inl ⟨by rfl, fun w hSw => by (try dsimp only at hSw); go_simp⟩) (by assumption) ?_
                              simp only [Act.put, List.setIfInBounds_toArray, List.set_cons_zero, List.set_cons_succ]
                              refine wpAnyH_ready (rs := [10]) (by kernel_rfl) (by simp) ?_
                              refine AllReadyH.cons rfl (fun Kc hK => ?_) AllReadyH.nil
                              refine if_wp rfl (wp_stMid0 23 _ _ rfl _ 0 [.int .i64 kk.bas, .int .i64 kk.stp] rfl rfl (th_of hz 0 2 (by decide)) Wi.szKey rfl rfl ?_)
                              have hzZ := Wi.row_upd [.int .i64 kk.bas, .int .i64 kk.stp] 0 hz
                              refine hK.out _ _ ⟨⟨(Wi.other_upd hn1 _ _).trans hHd2.sk.mb, (Wi.other_upd hn3 _ _).trans hHd2.sk.rp, (Wi.other_upd hn2 _ _).trans hHd2.sk.re, Wi.upd_below hgz _ _ hHd2.sk.bel, hHd2.sk.gb, hHd2.sk.gk, hHd2.sk.ne, hHd2.sk.nr⟩, (Wi.other_upd hn4 _ _).trans hHd2.nb, (Wi.other_upd hn5 _ _).trans hHd2.ky, hHd2.gn, hHd2.n1, hHd2.n2, hHd2.n3, hHd2.n4⟩ (fun hHd3 => ?_)
                              clear hHd2
                              clear hK Kc
                              try simp only [Act.put, List.setIfInBounds_toArray, List.set_cons_zero, List.set_cons_succ]
                              refine wpAnyH_take (i := 11) (oi := { dst := some 12, op := Op.assign (Operand.tmp 93), type := _, pos := _, after := _, guard := none }) (v := .int .i64 ke) rfl (by kernel_rfl) (by kernel_rfl) (by kernel_rfl) (fun _ _ _ h => h) (Or.inl ⟨by rfl, fun w hSw => by (try dsimp only at hSw); go_simp⟩) (by assumption) ?_
                              simp only [Act.put, List.setIfInBounds_toArray, List.set_cons_zero, List.set_cons_succ]
                              refine wpAnyH_done (by kernel_rfl) ?_ _
                              go_wp2_with fail
                              go_meet
                              case rel => exact ⟨_, rfl, rfl, hHd3, hzZ⟩
                          case rest =>
                            obtain ⟨X, rfl, rfl, hSc, hkX⟩ := hcut
                            clear hop hS
                            rcases HKK.out with ⟨ho, rfl, rfl⟩ | ⟨ho, rfl⟩
                            · have HO2 : Hid (opn b2 l = true) := ho
                              clear ho HKK
                              obtain ⟨y0, y1⟩ := hkX.cells
                              obtain ⟨⟨a5, a6⟩, ⟨a7, a8⟩, a9, a10⟩ := hSc.nb.key
                              have f0 := hSc.nb.fr 9
                              have f1 := hSc.nb.fr 10
                              have hS := hSc.upd2 (ma_k2 hSc.nb (ldK b2))
                              clear hSc hkX
                              go_upto_region 19 with (fail)
                              clear y0 y1 a5 a6 a7 a8 a9 a10 f0 f1
                              generalize (wc.setCell ⟨N, 9, none⟩ (.int .i64 (ldK b2).bas)).setCell ⟨N, 10, none⟩ (.int .i64 (ldK b2).stp) = wv at *
                              go_wp2_with fail
                              rw [rounds_succ]
                              have HF : Hid (arr m pe l (ldK b0) (ldK b1) (ldK b2) = calm (k2 (k1 (k0 n0 (ldK b0)) (ldK b1)) (ldK b2))) := by unfold Hid; rw [← HN0.out]; rfl
                              have HA : Hid _ := HA4.out (by unfold opn3; rw [HB0.out, HB1.out, HB2.out, HO0.out, HO1.out, HO2.out]; rfl)
                              obtain ⟨nn, hnn⟩ : ∃ x, (k2 (k1 (k0 n0 (ldK b0)) (ldK b1)) (ldK b2)) = x := ⟨_, rfl⟩
                              rw [hnn] at hS HF
                              clear hnn HA3 HA4
                              have hcl := rCalm_any nn
                              obtain ⟨cn, hcn⟩ : ∃ c, mba nn = c := ⟨_, rfl⟩
                              have HN : Hid (mba nn = cn) := hcn
                              simp only [hcn] at hcl
                              clear hcn
                              go_wp2_with (refine ldMb hS.nb HN.out _ rfl rfl rfl ?_)
                              refine (hcl _).mono ?_
                              rintro r w9 ⟨rfl, hb9⟩
                              have hre := (hS.later hb9).sk.re
                              have HBE : Hid (Below w.heap.size w w9) := (hS.later hb9).sk.bel
                              have HGK : Hid (w.heap.size ≤ K) := hS.sk.gk
                              clear hS hb9 hcl
                              go_wp2_with (refine stMb (n := calm nn) hre rfl rfl _ _ rfl rfl rfl ?_)
                              refine bodyPost_ret (resRow (p := 4) (t := 5) rfl _ _ K (mba (calm nn)) rfl (hre.row (calm nn)).var) rfl ?_
                              exact ⟨by rw [← HA.out, HF.out]; rfl, Rt.setRow_below HGK.out HBE.out _⟩
                            · have HA : Hid _ := HA3.out (by unfold opn3; rw [HB0.out, HB1.out, HB2.out, HO0.out, HO1.out, ho]; rfl)
                              have hSk := hSc.sk
                              clear ho HKK HA3 HA4 hSc hkX
                              go_wp2_with (first | (refine ldMb hSk.mb HM.out _ rfl rfl rfl ?_) | (refine stMb hSk.re HM.out rfl _ _ rfl rfl rfl ?_))
                              refine bodyPost_ret (resRow (p := 4) (t := 5) rfl _ _ K (mba m) rfl (hSk.re.row m).var) rfl ?_
                              exact ⟨HA.out, Rt.setRow_below hSk.gk hSk.bel _⟩
                        · have HA : Hid _ := HA3.out (by unfold opn3; rw [HB0.out, HB1.out, HB2.out, HO0.out, ho]; rfl)
                          have hSk := hSc.sk
                          clear ho HKK HA3 HA4 hSc hkX
                          go_wp2_with (first | (refine ldMb hSk.mb HM.out _ rfl rfl rfl ?_) | (refine stMb hSk.re HM.out rfl _ _ rfl rfl rfl ?_))
                          refine bodyPost_ret (resRow (p := 4) (t := 5) rfl _ _ K (mba m) rfl (hSk.re.row m).var) rfl ?_
                          exact ⟨HA.out, Rt.setRow_below hSk.gk hSk.bel _⟩
                    · have HA : Hid _ := HA3.out (by unfold opn3; rw [HB0.out, HB1.out, HB2.out, ho]; rfl)
                      have hSk := hSc.sk
                      clear ho HKK HA3 HA4 hSc hkX
                      go_wp2_with (first | (refine ldMb hSk.mb HM.out _ rfl rfl rfl ?_) | (refine stMb hSk.re HM.out rfl _ _ rfl rfl rfl ?_))
                      refine bodyPost_ret (resRow (p := 4) (t := 5) rfl _ _ K (mba m) rfl (hSk.re.row m).var) rfl ?_
                      exact ⟨HA.out, Rt.setRow_below hSk.gk hSk.bel _⟩
                · have hah := Rt.rAhead_far m.lf.bas m.lf.stp (p.2.1 - m.ep) hlf (.inr (by omega))
                  have HA : Hid _ := TkA.no (tk_2 hmy hst) (by decide)
                  clear hok hge hpe hme hlf hgs hgE g0 g1 g2 hmy hst
                  obtain ⟨df, hdf⟩ : ∃ d, p.2.1 - m.ep = d := ⟨_, rfl⟩
                  rw [hdf] at hw1
                  simp only [hdf] at hah
                  have hw1 : IntKind.i64.wrap (p.2.1 - m.ep) = df := by rw [hdf]; exact hw1
                  clear hdf
                  go_wp2_with fail
                  refine (hah _).mono ?_
                  rintro r w5 ⟨rfl, hb5⟩
                  have hS6 := (hS4.later hb5).later (below_alloc w5 (.cells #[.int .i64 0, .int .i64 0] 23))
                  clear hb5 hS4 c2 c3 c4 r2 hw1 hah hNb
                  go_upto_region 14 with (fail)
                  generalize w5.alloc (.cells #[.int .i64 0, .int .i64 0] 23) = w6 at *
                  generalize w5.heap.size = L at *
                  go_wp2_with (first | (refine ldMb hS6.mb HM.out _ rfl rfl rfl ?_) | (refine stMb hS6.re HM.out rfl _ _ rfl rfl rfl ?_))
                  refine bodyPost_ret (resRow (p := 4) (t := 5) rfl _ _ K (mba m) rfl (hS6.re.row m).var) rfl ?_
                  exact ⟨HA.out, Rt.setRow_below hS6.gk hS6.bel _⟩
        · have d2 : (ps != ms) = true := by simpa using q2
          have HA : Hid _ := H3.out (fun h => q2 h.2)
          clear H3 H4 H5 q1 q2
          go_upto_region 9 with (fail)
          go_wp2_with (first | (refine ldMb hS3.mb HM.out _ rfl rfl rfl ?_) | (refine stMb hS3.re HM.out rfl _ _ rfl rfl rfl ?_))
          refine bodyPost_ret (resRow (p := 4) (t := 5) rfl _ _ K (mba m) rfl (hS3.re.row m).var) rfl ?_
          exact ⟨HA.out, Rt.setRow_below hS3.gk hS3.bel _⟩
      · have d1 : (pw != mw) = true := by simpa using q1
        have HA : Hid _ := H3.out (fun h => q1 h.1)
        clear H3 H4 H5 q1
        go_upto_region 9 with (fail)
        go_wp2_with (first | (refine ldMb hS3.mb HM.out _ rfl rfl rfl ?_) | (refine stMb hS3.re HM.out rfl _ _ rfl rfl rfl ?_))
        refine bodyPost_ret (resRow (p := 4) (t := 5) rfl _ _ K (mba m) rfl (hS3.re.row m).var) rfl ?_
        exact ⟨HA.out, Rt.setRow_below hS3.gk hS3.bel _⟩
end Go.Proofs.YtdghibimelhgjaaGreat.Rv
