/- Contract: the document's Take. MADE by wip/mk_rvg.py. -/
import Derived.Test.YtpimbpfefhkojaaGreatRvF
import Derived.Test.YtpimbpfefhkojaaGreatRvC
import Derived.Test.YtpimbpfefhkojaaGreatMbJ6
import Derived.Test.YtpimbpfefhkojaaGreatWiI
import Derived.Test.YtpimbpfefhkojaaGreatRtK
import Derived.BigQuiet
namespace Go.Proofs.YtpimbpfefhkojaaGreat.Rv
open Go.RowKit Go.Maps Mb
open Rt (Ky zK gd gv Gd gd_iff pcs KyAt)
open Wi (gR gE gW gS gI gB gK gP zP zR zQ zD ldM rd_guard ra_of th_of ra_later RdV itl stl bxl Msg gM MR mgv)
set_option linter.unusedVariables false
set_option linter.unusedSimpArgs false

/- The state of the walk: the state, the reply, the answer, the new state, the advanced key. -/
structure SL (w W : World) (B R K N L : Nat) (m : Mb) (p : Rp) (n : Mb) (l : Ky) : Prop where
  sk : SK w W B R K m p
  nb : MA W N n
  ky : KyAt W L l
  gn : w.heap.size ≤ N
  n1 : B ≠ N
  n2 : K ≠ N
  n3 : R ≠ N
  n4 : L ≠ N
theorem SL.later {w W W' : World} {B R K N L : Nat} {m : Mb} {p : Rp} {n : Mb} {l : Ky} (h : SL w W B R K N L m p n l) (hb : Below W.heap.size W W') : SL w W' B R K N L m p n l := ⟨h.sk.later hb, h.nb.later hb, h.ky.later hb, h.gn, h.n1, h.n2, h.n3, h.n4⟩
theorem SL.setN {w W : World} {B R K N L : Nat} {m : Mb} {p : Rp} {n n' : Mb} {l : Ky} (h : SL w W B R K N L m p n l) {k : Nat} {v : Value} (hn : MA (W.setCell ⟨N, k, none⟩ v) N n') : SL w (W.setCell ⟨N, k, none⟩ v) B R K N L m p n' l :=
  ⟨⟨(Rt.other_setCell h.n1 _ _).trans h.sk.mb, (Rt.other_setCell h.n3 _ _).trans h.sk.rp, (Rt.other_setCell h.n2 _ _).trans h.sk.re, h.sk.bel.setCell (p := ⟨N, k, none⟩) h.gn v, h.sk.gb, h.sk.gk, h.sk.ne, h.sk.nr⟩, hn, (Rt.other_setCell h.n4 _ _).trans h.ky, h.gn, h.n1, h.n2, h.n3, h.n4⟩
theorem SL.upd2 {w W : World} {B R K N L : Nat} {m : Mb} {p : Rp} {n n' : Mb} {l : Ky} (h : SL w W B R K N L m p n l) {i j : Nat} {u v : Value} (hn : MA ((W.setCell ⟨N, i, none⟩ u).setCell ⟨N, j, none⟩ v) N n') : SL w ((W.setCell ⟨N, i, none⟩ u).setCell ⟨N, j, none⟩ v) B R K N L m p n' l :=
  ⟨⟨two_other h.sk.mb h.n1 _ _ _ _, two_other h.sk.rp h.n3 _ _ _ _, two_other h.sk.re h.n2 _ _ _ _, two_bel h.sk.bel h.gn _ _ _ _, h.sk.gb, h.sk.gk, h.sk.ne, h.sk.nr⟩, hn, two_other h.ky h.n4 _ _ _ _, h.gn, h.n1, h.n2, h.n3, h.n4⟩
theorem ma_3 {w : World} {B : Nat} {m : Mb} (h : MA w B m) (l : Ky) (e : Int) : MA ((((w.setCell ⟨B, 3, none⟩ (.int .i64 l.bas)).setCell ⟨B, 4, none⟩ (.int .i64 l.stp)).setCell ⟨B, 2, none⟩ (.int .i64 e)).setCell ⟨B, 11, none⟩ (.bool true)) B ⟨m.who, m.slt, e, l, m.p0, m.p1, m.p2, true, m.out, m.bh⟩ :=
  Rt.row_setCell (Rt.row_setCell (Rt.row_setCell (Rt.row_setCell h 3 (.int .i64 l.bas)) 4 (.int .i64 l.stp)) 2 (.int .i64 e)) 11 (.bool true)
def k0 (m : Mb) (k : Ky) : Mb := ⟨m.who, m.slt, m.ep, m.lf, k, m.p1, m.p2, m.has, m.out, m.bh⟩
def k1 (m : Mb) (k : Ky) : Mb := ⟨m.who, m.slt, m.ep, m.lf, m.p0, k, m.p2, m.has, m.out, m.bh⟩
def k2 (m : Mb) (k : Ky) : Mb := ⟨m.who, m.slt, m.ep, m.lf, m.p0, m.p1, k, m.has, m.out, m.bh⟩
theorem ma_k0 {w : World} {B : Nat} {m : Mb} (h : MA w B m) (k : Ky) : MA ((w.setCell ⟨B, 5, none⟩ (.int .i64 k.bas)).setCell ⟨B, 6, none⟩ (.int .i64 k.stp)) B (k0 m k) := Rt.row_setCell (Rt.row_setCell h 5 (.int .i64 k.bas)) 6 (.int .i64 k.stp)
theorem ma_k1 {w : World} {B : Nat} {m : Mb} (h : MA w B m) (k : Ky) : MA ((w.setCell ⟨B, 7, none⟩ (.int .i64 k.bas)).setCell ⟨B, 8, none⟩ (.int .i64 k.stp)) B (k1 m k) := Rt.row_setCell (Rt.row_setCell h 7 (.int .i64 k.bas)) 8 (.int .i64 k.stp)
theorem ma_k2 {w : World} {B : Nat} {m : Mb} (h : MA w B m) (k : Ky) : MA ((w.setCell ⟨B, 9, none⟩ (.int .i64 k.bas)).setCell ⟨B, 10, none⟩ (.int .i64 k.stp)) B (k2 m k) := Rt.row_setCell (Rt.row_setCell h 9 (.int .i64 k.bas)) 10 (.int .i64 k.stp)
theorem SL.upd4 {w W : World} {B R K N L : Nat} {m : Mb} {p : Rp} {n : Mb} {l : Ky} (h : SL w W B R K N L m p n l) (k : Ky) (e : Int) : SL w ((((W.setCell ⟨N, 3, none⟩ (.int .i64 k.bas)).setCell ⟨N, 4, none⟩ (.int .i64 k.stp)).setCell ⟨N, 2, none⟩ (.int .i64 e)).setCell ⟨N, 11, none⟩ (.bool true)) B R K N L m p ⟨n.who, n.slt, e, k, n.p0, n.p1, n.p2, true, n.out, n.bh⟩ l :=
  ⟨⟨two_other (two_other h.sk.mb h.n1 _ _ _ _) h.n1 _ _ _ _, two_other (two_other h.sk.rp h.n3 _ _ _ _) h.n3 _ _ _ _, two_other (two_other h.sk.re h.n2 _ _ _ _) h.n2 _ _ _ _, two_bel (two_bel h.sk.bel h.gn _ _ _ _) h.gn _ _ _ _, h.sk.gb, h.sk.gk, h.sk.ne, h.sk.nr⟩, ma_3 h.nb k e, two_other (two_other h.ky h.n4 _ _ _ _) h.n4 _ _ _ _, h.gn, h.n1, h.n2, h.n3, h.n4⟩
theorem ky_of {n : Nat} {w X : World} (h : Below n w (X.alloc (.cells #[.int .i64 0, .int .i64 0] 23))) : KyAt (X.alloc (.cells #[.int .i64 0, .int .i64 0] 23)) X.heap.size zK := heap_alloc_last X _
end Go.Proofs.YtpimbpfefhkojaaGreat.Rv
