/- Contracts: the document's Next of trees. -/
import Derived.Test.YteocfmimgoocnaaDoorPlE
namespace Go.Proofs.YteocfmimgoocnaaDoor
open Go.RowKit Go.Maps Go.Great
open Rt (Ky zK kcs KsAt trE trK trA trN cu)
open Rs (En zE rcs RoAt tkn RdI RdS ps ft fnd FitOk evs evl mvE mvR mvL mvJ)
set_option linter.unusedVariables false
set_option linter.unusedSimpArgs false

structure N11P (w w' : World) (t : Tr) (L J : List Int) (vl vj : Value) : Prop where
  left : w'.ownsRow w.heap.size 57 2 vl (pnL t L J).length (ps (pnL t L J))
  join : w'.ownsRow w.heap.size 57 2 vj (pnJ t L J).length (ps (pnJ t L J))
  apart : vl.ownBlock = none ∨ vl.ownBlock ≠ vj.ownBlock
def N11A (w w' : World) (t : Tr) (L J : List Int) (e : Ending) : Prop := ∃ vl vj, e = .returned (.tuple #[.agg (tcs (pnT t L J)), vl, vj, .int .i64 (plE t L J)]) ∧ N11P w w' t L J vl vj
theorem N11A.no {w w' : World} {t : Tr} {L J : List Int} {E : Int} (h : plE t L J = E) (h0 : E ≠ 0) : N11A w w' t L J (.returned (.tuple #[.agg (tcs (tz 0)), .slice none 0 0, .slice none 0 0, .int .i64 E])) := by
  refine ⟨.slice none 0 0, .slice none 0 0, ?_, ?_, ?_, .inl rfl⟩
  · unfold pnT; rw [h, if_neg h0]
  · unfold pnL; rw [h, if_neg h0]; exact World.ownsRow_nil _ _ _ _
  · unfold pnJ; rw [h, if_neg h0]; exact World.ownsRow_nil _ _ _ _
theorem N11A.yes {w w' : World} {t : Tr} {L J : List Int} {vl vj : Value} (h : plE t L J = 0) (h1 : w'.ownsRow w.heap.size 57 2 vl (evl t.ro L).length (ps (evl t.ro L))) (h2 : w'.ownsRow w.heap.size 57 2 vj (jns t L J).length (ps (jns t L J))) (h4 : vl.ownBlock = none ∨ vl.ownBlock ≠ vj.ownBlock) :
    N11A w w' t L J (.returned (.tuple #[.agg (tcs (nx t L J)), vl, vj, .int .i64 0])) := by
  refine ⟨vl, vj, ?_, ?_, ?_, h4⟩
  · unfold pnT; rw [h, if_pos rfl]
  · unfold pnL; rw [if_pos h]; exact h1
  · unfold pnJ; rw [if_pos h]; exact h2
theorem results_n11 {fn : Func} {p t u v : Tmp} (hf : fn.results = #[.cell p 45, .tmp t, .tmp u, .tmp v]) (tmps : Array Value) (W : World) (K : Nat) (n : Tr) (hp : tmps[p]? = some (.pointer (some ⟨K, 0, none⟩))) (hk : TrAt W K n) :
    (results fn tmps).run Tryd.prog W = .ok (.tuple #[.agg (tcs n), tmps.getD t undef, tmps.getD u undef, tmps.getD v undef]) W := by
  have h := run_loadVar_row W K _ 45 _ _ _ hk Tryd.underlying45 rfl (by rw [tcs_size]; exact infoT)
  simp [results, hf, hp, asAddr, h]
structure NY (w W : World) (B C K : Nat) (t : Tr) (aL aJ : Option Addr) (nL nJ cL cJ : Nat) : Prop where
  tb : TB w W B C t aL aJ nL nJ cL cJ
  ze : TrAt W K (tz 0)
  gK : w.heap.size ≤ K
theorem NY.later {w W W' : World} {B C K : Nat} {t : Tr} {aL aJ : Option Addr} {nL nJ cL cJ : Nat} (h : NY w W B C K t aL aJ nL nJ cL cJ) (hb : Below W.heap.size W W') : NY w W' B C K t aL aJ nL nJ cL cJ := ⟨h.tb.later hb, h.ze.later hb, h.gK⟩
theorem NY.new (w : World) (t : Tr) (aL aJ : Option Addr) (nL nJ cL cJ : Nat) : NY w (((w.alloc (.cells (tcs t) 45)).alloc (.cells #[.slice aL nL cL, .slice aJ nJ cJ] 48)).alloc (.cells (tcs (tz 0)) 45)) w.heap.size (w.heap.size + 1) (w.heap.size + 2) t aL aJ nL nJ cL cJ := by
  have h1 := TB.new w t aL aJ nL nJ cL cJ
  generalize hW : (w.alloc (.cells (tcs t) 45)).alloc (.cells #[.slice aL nL cL, .slice aJ nJ cJ] 48) = W at *
  have hs : W.heap.size = w.heap.size + 2 := by rw [← hW]; simp
  have h2 := TrAt.new W (tz 0)
  have hb2 := alloc_tr W (tz 0)
  rw [hs] at h2
  exact ⟨h1.later hb2, h2, by omega⟩
/- With the list of those who go. -/
structure NZ (w W : World) (B C K n0 : Nat) (t : Tr) (aL aJ : Option Addr) (nL nJ cL cJ : Nat) (v : Value) (l : List (Int × Int)) : Prop where
  ny : NY w W B C K t aL aJ nL nJ cL cJ
  row : W.ownsRow n0 57 2 v l.length (ps l)
  lB : B < n0
  lC : C < n0
  lK : K < n0
  ln : w.heap.size ≤ n0
  sz : n0 ≤ W.heap.size
theorem NZ.later {w W W' : World} {B C K n0 : Nat} {t : Tr} {aL aJ : Option Addr} {nL nJ cL cJ : Nat} {v : Value} {l : List (Int × Int)} (h : NZ w W B C K n0 t aL aJ nL nJ cL cJ v l) (hb : Below W.heap.size W W') : NZ w W' B C K n0 t aL aJ nL nJ cL cJ v l := ⟨h.ny.later hb, Rs.owns_later h.row hb, h.lB, h.lC, h.lK, h.ln, Nat.le_trans h.sz hb.size⟩
theorem NZ.app {w W W1 : World} {B C K n0 : Nat} {t : Tr} {aL aJ : Option Addr} {nL nJ cL cJ : Nat} {v v' : Value} {l : List (Int × Int)} {o : Obj} {p : Int × Int} (h : NZ w W B C K n0 t aL aJ nL nJ cL cJ v l) (hown : W1.ownsRow n0 57 2 v' (l.length + 1) (ps l ++ [.int .i64 p.1, .int .i64 p.2])) (hg : (W.alloc o).grownBy W1 v.ownBlock) : NZ w W1 B C K n0 t aL aJ nL nJ cL cJ v' (l ++ [p]) := by
  have hs := h.sz
  have blk : ∀ k, k < n0 → W1.heap[k]? = W.heap[k]? := fun k hk => Rs.grown_low h.row hg hk (by omega)
  have hsz : n0 ≤ W1.heap.size := by have h1 := hg.size; simp at h1; omega
  refine ⟨⟨⟨(blk _ h.lB).trans h.ny.tb.tr, (blk _ h.lC).trans h.ny.tb.bt, Rs.grown_bel h.ny.tb.bel h.row h.ln hg⟩, (blk _ h.lK).trans h.ny.ze, h.ny.gK⟩, ?_, h.lB, h.lC, h.lK, h.ln, hsz⟩
  rw [Rs.ps_snoc, List.length_append]
  exact hown
theorem NY.two {w W : World} {B C K : Nat} {t : Tr} {aL aJ : Option Addr} {nL nJ cL cJ : Nat} (h : NY w W B C K t aL aJ nL nJ cL cJ) {A : Nat} {f : Nat → Ky} (hA : KsAt W A f) (hw : w.heap.size ≤ A) (c : Array Value) : NY w (W.setRow A c) B C K t aL aJ nL nJ cL cJ :=
  ⟨⟨(Rt.row_other (block_ne h.tb.tr hA (by decide)) _).trans h.tb.tr, (Rt.row_other (block_ne h.tb.bt hA (by decide)) _).trans h.tb.bt, Rt.setRow_below hw h.tb.bel _⟩, (Rt.row_other (block_ne h.ze hA (by decide)) _).trans h.ze, h.gK⟩
theorem NZ.two {w W : World} {B C K n0 : Nat} {t : Tr} {aL aJ : Option Addr} {nL nJ cL cJ : Nat} {v : Value} {l : List (Int × Int)} (h : NZ w W B C K n0 t aL aJ nL nJ cL cJ v l) {A : Nat} {f : Nat → Ky} (hA : KsAt W A f) (hw : w.heap.size ≤ A) (c : Array Value) : NZ w (W.setRow A c) B C K n0 t aL aJ nL nJ cL cJ v l :=
  ⟨h.ny.two hA hw c, Rs.owns_type h.row hA (by decide) _, h.lB, h.lC, h.lK, h.ln, by have := h.sz; simpa [World.setRow] using this⟩
theorem KsAt_row {w : World} {B : Nat} {f g : Nat → Ky} {c : Array Value} (h : KsAt w B f) (hc : kcs g = c) : KsAt (w.setRow B c) B g := by
  subst hc
  exact Rt.KsAt.row h g
theorem take_map {L : List Int} {k : Nat} (f : Int → Int × Int) (h : k < L.length) : (L.take (k + 1)).map f = (L.take k).map f ++ [f (L.getD k 0)] := by
  rw [List.take_add_one, List.getElem?_eq_getElem h, List.map_append, List.getD_eq_getElem?_getD, List.getElem?_eq_getElem h]
  rfl
end Go.Proofs.YteocfmimgoocnaaDoor
