/- PlA, PlB, PlC, joined. -/
import Derived.Test.YtpimbpfefhkojaaGreatPlJ1
import Derived.Test.YtpimbpfefhkojaaGreatTrJ3
import Derived.Test.YtpimbpfefhkojaaGreatRsJ5
import Derived.Test.YtpimbpfefhkojaaGreatShK
import Derived.Deep.DeepCutAuto
import Derived.Test.YtpimbpfefhkojaaGreatKeyJ
import Derived.Test.YtpimbpfefhkojaaGreatTrJ
/- Contracts: isIn, keyAt, allowed, Replaced of the program. -/
namespace Go.Proofs.YtpimbpfefhkojaaGreat
open Go.RowKit Go.Maps
open Rt (Ky zK kcs KyAt lfE lfB lfS)
open Rs (En zE rcs RoAt tkn ft RdI RdS ps sl put putR)
open Sh (lef abvTo)
set_option linter.unusedVariables false
set_option linter.unusedSimpArgs false

theorem results_ky1 {fn : Func} {p : Tmp} (hf : fn.results = #[.cell p 23 ]) (tmps : Array Value) (W : World) (B : Nat) (e : Ky) (hp : tmps[p]? = some (.pointer (some ⟨B, 0, none⟩))) (hb : KyAt W B e) :
    (results fn tmps).run Tryz.prog W = .ok (.agg #[.int .i64 e.bas, .int .i64 e.stp]) W := by
  have h := run_loadVar_row W B _ 23 _ _ _ hb Tryz.underlying23 rfl infoKy
  simp [results, hf, hp, asAddr, h]
theorem SK.two {w W : World} {B K : Nat} {t : Tr} (h : SK w W B K t) {A : Nat} (h1 : B ≠ A) (h2 : K ≠ A) (h3 : w.heap.size ≤ A) (a b : Int) : SK w ((W.setCell ⟨A, 0, none⟩ (.int .i64 a)).setCell ⟨A, 1, none⟩ (.int .i64 b)) B K t :=
  ⟨(Rt.set2_other h1 _ _ _ _).trans h.tr, h.ky.elim fun e he => ⟨e, (Rt.set2_other h2 _ _ _ _).trans he⟩, Rt.set2_below h.bel h3 _ _ _ _, h.ne, h.ge⟩
theorem take_snoc2 {l : List (Int × Int)} {k : Nat} (h : k < l.length) : l.take (k + 1) = l.take k ++ [l.getD k (0, 0)] := by
  rw [List.take_add_one, List.getD_eq_getElem?_getD, List.getElem?_eq_getElem h]
  rfl
def KyE (k : Ky) : Ending := .returned (.agg #[.int .i64 k.bas, .int .i64 k.stp])
/- The tree and the batch, boxed. -/
def BtAt (w : World) (B : Nat) (aL aJ : Option Addr) (nL nJ cL cJ : Nat) : Prop := w.heap[B]? = some (.cells #[.slice aL nL cL, .slice aJ nJ cJ] 45 (0, 0))
theorem BtAt.cells {w : World} {B : Nat} {aL aJ : Option Addr} {nL nJ cL cJ : Nat} (h : BtAt w B aL aJ nL nJ cL cJ) : w.cell? ⟨B, 0, none⟩ = some (.slice aL nL cL) ∧ w.cell? ⟨B, 1, none⟩ = some (.slice aJ nJ cJ) :=
  ⟨cell_of_row w B 0 _ _ _ h, cell_of_row w B 1 _ _ _ h⟩
theorem BtAt.later {w w' : World} {B : Nat} {aL aJ : Option Addr} {nL nJ cL cJ : Nat} (h : BtAt w B aL aJ nL nJ cL cJ) (hb : Below w.heap.size w w') : BtAt w' B aL aJ nL nJ cL cJ := (hb.block B (Array.getElem?_eq_some_iff.1 h).1).trans h
structure TB (w W : World) (B C : Nat) (t : Tr) (aL aJ : Option Addr) (nL nJ cL cJ : Nat) : Prop where
  tr : TrAt W B t
  bt : BtAt W C aL aJ nL nJ cL cJ
  bel : Below w.heap.size w W
theorem TB.later {w W W' : World} {B C : Nat} {t : Tr} {aL aJ : Option Addr} {nL nJ cL cJ : Nat} (h : TB w W B C t aL aJ nL nJ cL cJ) (hb : Below W.heap.size W W') : TB w W' B C t aL aJ nL nJ cL cJ := ⟨h.tr.later hb, h.bt.later hb, h.bel.trans (hb.mono h.bel.size)⟩
theorem TB.new (w : World) (t : Tr) (aL aJ : Option Addr) (nL nJ cL cJ : Nat) : TB w ((w.alloc (.cells (tcs t) 31)).alloc (.cells #[.slice aL nL cL, .slice aJ nJ cJ] 45)) w.heap.size (w.heap.size + 1) t aL aJ nL nJ cL cJ := by
  have h1 := TrAt.new w t
  have hb1 := alloc_tr w t
  have h2 := heap_alloc_last (w.alloc (.cells (tcs t) 31)) (.cells #[.slice aL nL cL, .slice aJ nJ cJ] 45)
  have hb2 := below_alloc (w.alloc (.cells (tcs t) 31)) (.cells #[.slice aL nL cL, .slice aJ nJ cJ] 45)
  rw [World.size_alloc] at h2
  exact ⟨h1.later hb2, h2, hb1.trans (hb2.mono hb1.size)⟩
def alE (t : Tr) (L J : List Int) : Int := if tck t then (if t.ep = 200 then 19 else ft t.ro L J) else 31
/- The seats' slots. -/
end Go.Proofs.YtpimbpfefhkojaaGreat
/- Contracts: the closure that gathers items. -/
namespace Go.Proofs.YtpimbpfefhkojaaGreat
open Go.RowKit Go.Maps
open Rt (Ky zK kcs KyAt Gd)
open Rs (En zE rcs RoAt tkn)
set_option linter.unusedVariables false
set_option linter.unusedSimpArgs false

/- Items as cells. -/
def ics (x : It) : List Value := [.int .i64 x.nd, .int .i64 x.fm, .int .i64 x.un.bas, .int .i64 x.un.stp, .int .i64 x.ld.bas, .int .i64 x.ld.stp]
def isl (l : List It) : List Value := l.flatMap ics
theorem isl_snoc (l : List It) (x : It) : isl (l ++ [x]) = isl l ++ ics x := by simp [isl]
theorem isl_len (l : List It) : (isl l).length = l.length * 6 := by
  induction l with
  | nil => rfl
  | cons x l ih =>
    show (ics x ++ isl l).length = _
    rw [List.length_append, ih, List.length_cons]
    show 6 + _ = _
    omega
theorem infoItem : (Tryz.prog.info? 104).map (fun i => (i.zero, i.size, i.bytes)) = some (some (.agg #[.int .i64 0, .int .i64 0, .int .i64 0, .int .i64 0, .int .i64 0, .int .i64 0]), 6, 48) := by kernel_rfl
theorem infoItem_parts : ∃ i, Tryz.prog.info? 104 = some i ∧ i.zero = some (.agg #[.int .i64 0, .int .i64 0, .int .i64 0, .int .i64 0, .int .i64 0, .int .i64 0]) ∧ i.size = 6 ∧ i.bytes = 48 := by
  have h := infoItem
  cases hq : Tryz.prog.info? 104 with
  | none => rw [hq] at h; cases h
  | some i =>
    rw [hq] at h
    simp at h
    exact ⟨i, rfl, h.1, h.2.1, h.2.2⟩
theorem cell_row_new (w : World) (cs : Array Value) (t : TypeId) : ∀ j u, cs.toList[j]? = some u → (w.alloc (.cells cs t)).cell? ((⟨w.heap.size, 0, none⟩ : Addr).add j) = some u := by
  intro j u hu
  have hadd : (⟨w.heap.size, 0, none⟩ : Addr).add j = ⟨w.heap.size, j, none⟩ := by
    unfold Addr.add
    simp
    intro h
    exact h.symm
  rw [hadd, cell_of_row _ _ j _ _ _ (heap_alloc_last w _)]
  simpa using hu
/- What other blocks there are stays. -/
theorem block_ne {w : World} {A B : Nat} {cs ds : Array Value} {T S : TypeId} {fz gz : Nat × Nat} (h : w.heap[A]? = some (.cells cs T fz)) (h2 : w.heap[B]? = some (.cells ds S gz)) (hne : T ≠ S) : A ≠ B := by
  rintro rfl
  rw [h] at h2
  simp at h2
  exact hne h2.2.1
def KeptT (W W' : World) : Prop := ∀ (k : Nat) (cs : Array Value) (T : TypeId), W.heap[k]? = some (.cells cs T (0, 0)) → T ≠ 104 → T ≠ 47 → W'.heap[k]? = some (.cells cs T (0, 0))
theorem KeptT.refl (W : World) : KeptT W W := fun k cs T h _ _ => h
theorem KeptT.trans {W W' W2 : World} (h : KeptT W W') (h2 : KeptT W' W2) : KeptT W W2 := fun k cs T hk h3 h4 => h2 k cs T (h k cs T hk h3 h4) h3 h4
theorem KeptT.below {W W' : World} (hb : Below W.heap.size W W') : KeptT W W' := fun k cs T h _ _ => (hb.block k (Array.getElem?_eq_some_iff.1 h).1).trans h
/- The tree, boxed, and the list that is gathered. -/
structure GL (w W : World) (BT BL n0 : Nat) (t : Tr) (vl : Value) (l : List It) : Prop where
  tr : TrAt W BT t
  li : W.heap[BL]? = some (.cells #[vl] 47 (0, 0))
  row : W.ownsRow n0 104 6 vl l.length (isl l)
  bel : Below w.heap.size w W
  bt : BT < n0
  bl : BL < n0
  ne : BT ≠ BL
  wl : w.heap.size ≤ BL
  sz : n0 ≤ W.heap.size
theorem GL.later {w W W' : World} {BT BL n0 : Nat} {t : Tr} {vl : Value} {l : List It} (h : GL w W BT BL n0 t vl l) (hb : Below W.heap.size W W') : GL w W' BT BL n0 t vl l :=
  ⟨h.tr.later hb, (hb.block BL (Array.getElem?_eq_some_iff.1 h.li).1).trans h.li, Rs.owns_later h.row hb, h.bel.trans (hb.mono h.bel.size), h.bt, h.bl, h.ne, h.wl, Nat.le_trans h.sz hb.size⟩
theorem GL.cell {w W : World} {BT BL n0 : Nat} {t : Tr} {vl : Value} {l : List It} (h : GL w W BT BL n0 t vl l) : W.cell? ⟨BL, 0, none⟩ = some vl := cell_of_row W BL 0 _ _ _ h.li
structure GH (w W W' : World) (BT BL n0 : Nat) (t : Tr) (vl : Value) (l : List It) : Prop where
  g : GL w W' BT BL n0 t vl l
  k : KeptT W W'
  sz : W.heap.size ≤ W'.heap.size
theorem GH.later {w W W' W2 : World} {BT BL n0 : Nat} {t : Tr} {vl : Value} {l : List It} (h : GH w W W' BT BL n0 t vl l) (hb : Below W'.heap.size W' W2) : GH w W W2 BT BL n0 t vl l :=
  ⟨h.g.later hb, h.k.trans (KeptT.below hb), Nat.le_trans h.sz hb.size⟩
def BxAt (w : World) (B : Nat) (a b : Ky) : Prop := w.heap[B]? = some (.cells #[.int .i64 a.bas, .int .i64 a.stp, .int .i64 b.bas, .int .i64 b.stp] 57 (0, 0))
theorem BxAt.cells {w : World} {B : Nat} {a b : Ky} (h : BxAt w B a b) : w.cell? ⟨B, 0, none⟩ = some (.int .i64 a.bas) ∧ w.cell? ⟨B, 1, none⟩ = some (.int .i64 a.stp) ∧ w.cell? ⟨B, 2, none⟩ = some (.int .i64 b.bas) ∧ w.cell? ⟨B, 3, none⟩ = some (.int .i64 b.stp) :=
  ⟨cell_of_row w B 0 _ _ _ h, cell_of_row w B 1 _ _ _ h, cell_of_row w B 2 _ _ _ h, cell_of_row w B 3 _ _ _ h⟩
theorem BxAt.later {w w' : World} {B : Nat} {a b : Ky} (h : BxAt w B a b) (hb : Below w.heap.size w w') : BxAt w' B a b := (hb.block B (Array.getElem?_eq_some_iff.1 h).1).trans h
theorem BxAt.set {w : World} {B : Nat} {a b : Ky} (h : BxAt w B a b) (c d : Ky) : BxAt ((((w.setCell ⟨B, 0, none⟩ (.int .i64 c.bas)).setCell ⟨B, 1, none⟩ (.int .i64 c.stp)).setCell ⟨B, 2, none⟩ (.int .i64 d.bas)).setCell ⟨B, 3, none⟩ (.int .i64 d.stp)) B c d := by
  have h3 := Rt.row_setCell (Rt.row_setCell (Rt.row_setCell (Rt.row_setCell h 0 (.int .i64 c.bas)) 1 (.int .i64 c.stp)) 2 (.int .i64 d.bas)) 3 (.int .i64 d.stp)
  exact h3
theorem set4_other {w : World} {B C : Nat} (h : C ≠ B) (v0 v1 v2 v3 : Value) : ((((w.setCell ⟨B, 0, none⟩ v0).setCell ⟨B, 1, none⟩ v1).setCell ⟨B, 2, none⟩ v2).setCell ⟨B, 3, none⟩ v3).heap[C]? = w.heap[C]? := by
  rw [Rt.other_setCell h, Rt.other_setCell h, Rt.other_setCell h, Rt.other_setCell h]
theorem set4_below {n : Nat} {w W : World} (h : Below n w W) {B : Nat} (hB : n ≤ B) (v0 v1 v2 v3 : Value) : Below n w ((((W.setCell ⟨B, 0, none⟩ v0).setCell ⟨B, 1, none⟩ v1).setCell ⟨B, 2, none⟩ v2).setCell ⟨B, 3, none⟩ v3) :=
  (((h.setCell (p := ⟨B, 0, none⟩) hB v0).setCell (p := ⟨B, 1, none⟩) hB v1).setCell (p := ⟨B, 2, none⟩) hB v2).setCell (p := ⟨B, 3, none⟩) hB v3
/- A box of its own is written. -/
theorem GH.four {w W W' : World} {BT BL n0 : Nat} {t : Tr} {vl : Value} {l : List It} (h : GH w W W' BT BL n0 t vl l) {A : Nat} {a b : Ky} (hx : BxAt W' A a b) (hA : W.heap.size ≤ A) (hw : w.heap.size ≤ W.heap.size) (v0 v1 v2 v3 : Value) :
    GH w W ((((W'.setCell ⟨A, 0, none⟩ v0).setCell ⟨A, 1, none⟩ v1).setCell ⟨A, 2, none⟩ v2).setCell ⟨A, 3, none⟩ v3) BT BL n0 t vl l := by
  have n1 : BT ≠ A := block_ne h.g.tr hx (by decide)
  have n2 : BL ≠ A := block_ne h.g.li hx (by decide)
  refine ⟨⟨(set4_other n1 _ _ _ _).trans h.g.tr, (set4_other n2 _ _ _ _).trans h.g.li, ?_, set4_below h.g.bel (by omega) _ _ _ _, h.g.bt, h.g.bl, h.g.ne, h.g.wl, by have := h.g.sz; simpa using this⟩, fun k cs T hk h1 h2 => ?_, ?_⟩
  · obtain ⟨q1, q2⟩ := h.g.row
    refine ⟨q1, ?_⟩
    rcases q2 with q2 | ⟨g, cap, cur, rfl, h3, h4, r⟩
    · exact .inl q2
    · exact .inr ⟨g, cap, cur, rfl, h3, (set4_other (block_ne h4 hx (by decide)) _ _ _ _).trans h4, r⟩
  · have hkl := (Array.getElem?_eq_some_iff.1 hk).1
    rw [set4_other (by omega)]
    exact h.k k cs T hk h1 h2
  · have := h.sz
    simpa using this
theorem GL.app {w W W1 : World} {BT BL n0 : Nat} {t : Tr} {vl v' : Value} {l : List It} {o : Obj} {x : It} (h : GL w W BT BL n0 t vl l) (hown : W1.ownsRow n0 104 6 v' (l.length + 1) (isl l ++ ics x)) (hg : (W.alloc o).grownBy W1 vl.ownBlock) :
    W1.heap[BL]? = some (.cells #[vl] 47 (0, 0)) ∧ GL w (W1.setCell ⟨BL, 0, none⟩ v') BT BL n0 t v' (l ++ [x]) := by
  have hs1 := h.tr.lt
  have hs2 := (Array.getElem?_eq_some_iff.1 h.li).1
  have blk : ∀ k, k < n0 → k < W.heap.size → W1.heap[k]? = W.heap[k]? := fun k hk hk2 => by
    rw [hg.block k (by simp; omega) (Rs.row_far h.row hk)]
    exact ((Below.refl _ W).alloc (Nat.le_refl _) o).block k (by omega)
  have hli : W1.heap[BL]? = some (.cells #[vl] 47 (0, 0)) := (blk _ h.bl hs2).trans h.li
  have hwl := h.wl
  have hbl := h.bl
  have hsz : n0 ≤ W1.heap.size := by have h1 := hg.size; have h2 := h.sz; simp at h1; omega
  refine ⟨hli, ⟨?_, ?_, ?_, ?_, h.bt, h.bl, h.ne, h.wl, by simpa using hsz⟩⟩
  · exact (Rt.other_setCell h.ne _ _).trans ((blk _ h.bt hs1).trans h.tr)
  · exact Rt.row_setCell hli 0 v'
  · rw [isl_snoc, List.length_append]
    exact Rs.owns_block hown fun j hj _ => Rt.other_setCell (by omega) _ _
  · refine Below.setCell (p := ⟨BL, 0, none⟩) ?_ h.wl _
    have b1 := h.bel.alloc h.bel.size o
    exact Below.grown b1 hg (by have := h.bel.size; simp; omega) fun j hj => by
      rcases Nat.lt_or_ge j n0 with hlt | hge
      · exact absurd hj.symm (Rs.row_far h.row hlt)
      · omega
theorem own_type {W : World} {b : Nat} {e : TypeId} {sz : Nat} {v : Value} {n : Nat} {xs : List Value} (h : W.ownsRow b e sz v n xs) {k : Nat} {cs : Array Value} {T : TypeId} {fz : Nat × Nat} (hk : W.heap[k]? = some (.cells cs T fz)) (hT : T ≠ e) : some k ≠ v.ownBlock := by
  intro he
  rcases h.2 with ⟨rfl, _⟩ | ⟨g, cap, cur, rfl, h3, h4, _⟩
  · simp [Value.ownBlock] at he
  · simp [Value.ownBlock] at he
    subst he
    rw [hk] at h4
    simp at h4
    exact hT h4.2.1
theorem GL.appK {w W W1 : World} {BT BL n0 : Nat} {t : Tr} {vl v' : Value} {l : List It} {o : Obj} (h : GL w W BT BL n0 t vl l) (hg : (W.alloc o).grownBy W1 vl.ownBlock) : KeptT W (W1.setCell ⟨BL, 0, none⟩ v') := fun k cs T hk h1 h2 => by
  have hkl := (Array.getElem?_eq_some_iff.1 hk).1
  have hne : k ≠ BL := block_ne hk h.li h2
  rw [Rt.other_setCell hne, hg.block k (by simp; omega) (own_type h.row hk h1)]
  exact (((Below.refl _ W).alloc (Nat.le_refl _) o).block k (by omega)).trans hk
def GiveP (w W W' : World) (BT BL n0 : Nat) (t : Tr) (l : List It) : Prop := ∃ vl', GL w W' BT BL n0 t vl' l ∧ KeptT W W'
theorem GiveP.of {w W W' : World} {BT BL n0 : Nat} {t : Tr} {l : List It} {v : Value} (h : GL w W' BT BL n0 t v l) (k : KeptT W W') : GiveP w W W' BT BL n0 t l := ⟨v, h, k⟩
end Go.Proofs.YtpimbpfefhkojaaGreat
/- Contracts: items of the program. -/
namespace Go.Proofs.YtpimbpfefhkojaaGreat
open Go.RowKit Go.Maps
open Rt (Ky zK kcs KyAt Gd)
open Rs (En zE rcs RoAt tkn tk RdS)
open Sh (belB msk)
set_option linter.unusedVariables false
set_option linter.unusedSimpArgs false

theorem ko_gd {t : Tr} (h : tck t = true) {c : Nat} (hc : c < 85) (h0 : koE t (c : Int) = 0) : Gd (kyA t c).bas (kyA t c).stp := by
  rw [kyA_ko h hc h0]
  have hr := tck_right h
  rcases kn h hc h0 with ⟨h1, e⟩ | ⟨s, hs, e1, ht, e⟩
  · rw [e]
    exact ((Rt.kchk_iff.1 hr.ks).1 c h1).1
  · rw [e]
    obtain ⟨a1, a2, a3, a4, _⟩ := hr.taken hs ht
    have a5 := (hr.fs s hs).2.1
    have a6 := hr.e1
    exact ⟨by dsimp only; omega, by dsimp only; omega, by dsimp only; omega, by dsimp only; omega⟩
theorem ks_gd {t : Tr} (h : tck t = true) {v : Nat} (hv : v < 21) : Gd (t.ks v).bas (t.ks v).stp := ((Rt.kchk_iff.1 (tck_right h).ks).1 v hv).1
def GLX (w W : World) (BT BL n0 : Nat) (t : Tr) (l : List It) : Prop := ∃ vl, GL w W BT BL n0 t vl l
def ItsP (w w' : World) (l : List It) (e : Ending) : Prop := ∃ v, e = .returned v ∧ w'.ownsRow (w.heap.size + 2) 104 6 v l.length (isl l) ∧ Below w.heap.size w w'
def StAt (w : World) (B : Nat) (p : Int × Int) : Prop := w.heap[B]? = some (.cells #[.int .i64 p.1, .int .i64 p.2] 93 (0, 0))
theorem StAt.cells {w : World} {B : Nat} {p : Int × Int} (h : StAt w B p) : w.cell? ⟨B, 0, none⟩ = some (.int .i64 p.1) ∧ w.cell? ⟨B, 1, none⟩ = some (.int .i64 p.2) := ⟨cell_of_row w B 0 _ _ _ h, cell_of_row w B 1 _ _ _ h⟩
theorem StAt.later {w w' : World} {B : Nat} {p : Int × Int} (h : StAt w B p) (hb : Below w.heap.size w w') : StAt w' B p := (hb.block B (Array.getElem?_eq_some_iff.1 h).1).trans h
theorem path_pn (s : Nat) (hs : s < 64) (w : World) : Calls Tryz.prog 74 #[.int .i64 (s : Int)] w fun e w' => e = .returned (.tuple #[.agg #[.int .i64 (pn s 0 : Nat), .int .i64 (pn s 1 : Nat), .int .i64 (pn s 2 : Nat)], .bool true]) ∧ Below w.heap.size w w' := by
  have h := Sh.path_yes (s : Int) (by omega) (by omega) w
  rw [show (5 + (s : Int) / 4) = ((pn s 0 : Nat) : Int) by unfold pn; simp, show (1 + (s : Int) / 16) = ((pn s 1 : Nat) : Int) by unfold pn; simp, show (0 : Int) = ((pn s 2 : Nat) : Int) by unfold pn; simp] at h
  exact h
theorem ix0 (x y z : Value) (w : World) : (Instr.index 69 (.agg #[x, y, z]) (.int .i64 0)).run Tryz.prog w = .ok x w := by kernel_rfl
theorem ix1 (x y z : Value) (w : World) : (Instr.index 69 (.agg #[x, y, z]) (.int .i64 1)).run Tryz.prog w = .ok y w := by kernel_rfl
theorem ix2 (x y z : Value) (w : World) : (Instr.index 69 (.agg #[x, y, z]) (.int .i64 2)).run Tryz.prog w = .ok z w := by kernel_rfl
end Go.Proofs.YtpimbpfefhkojaaGreat
