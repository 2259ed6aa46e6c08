/- Contracts: the closure that gathers items. -/
import Derived.Test.YtpimbpfefhkojabGreatDoorPlA
import Derived.Test.YtpimbpfefhkojabGreatDoorKeyJ
namespace Go.Proofs.YtpimbpfefhkojabGreatDoor
open Go.RowKit Go.Maps
open Rt (Ky zK kcs KyAt Gd)
open Rs (En zE rcs RoAt tkn)
set_option linter.unusedVariables false
set_option linter.unusedSimpArgs false

/- Items as cells. -/
def ics (x : It) : List Value := [.int .i64 x.nd, .int .i64 x.fm, .int .i64 x.un.bas, .int .i64 x.un.stp, .int .i64 x.ld.bas, .int .i64 x.ld.stp]
def isl (l : List It) : List Value := l.flatMap ics
theorem isl_snoc (l : List It) (x : It) : isl (l ++ [x]) = isl l ++ ics x := by simp [isl]
theorem infoItem : (Tryz.prog.info? 57).map (fun i => (i.zero, i.size, i.bytes)) = some (some (.agg #[.int .i64 0, .int .i64 0, .int .i64 0, .int .i64 0, .int .i64 0, .int .i64 0]), 6, 48) := by kernel_rfl
theorem infoItem_parts : ∃ i, Tryz.prog.info? 57 = some i ∧ i.zero = some (.agg #[.int .i64 0, .int .i64 0, .int .i64 0, .int .i64 0, .int .i64 0, .int .i64 0]) ∧ i.size = 6 ∧ i.bytes = 48 := by
  have h := infoItem
  cases hq : Tryz.prog.info? 57 with
  | none => rw [hq] at h; cases h
  | some i =>
    rw [hq] at h
    simp at h
    exact ⟨i, rfl, h.1, h.2.1, h.2.2⟩
theorem cell_row_new (w : World) (cs : Array Value) (t : TypeId) : ∀ j u, cs.toList[j]? = some u → (w.alloc (.cells cs t)).cell? ((⟨w.heap.size, 0, none⟩ : Addr).add j) = some u := by
  intro j u hu
  have hadd : (⟨w.heap.size, 0, none⟩ : Addr).add j = ⟨w.heap.size, j, none⟩ := by
    unfold Addr.add
    simp
    intro h
    exact h.symm
  rw [hadd, cell_of_row _ _ j _ _ _ (heap_alloc_last w _)]
  simpa using hu
/- What other blocks there are stays. -/
theorem block_ne {w : World} {A B : Nat} {cs ds : Array Value} {T S : TypeId} {fz gz : Nat × Nat} (h : w.heap[A]? = some (.cells cs T fz)) (h2 : w.heap[B]? = some (.cells ds S gz)) (hne : T ≠ S) : A ≠ B := by
  rintro rfl
  rw [h] at h2
  simp at h2
  exact hne h2.2.1
def KeptT (W W' : World) : Prop := ∀ (k : Nat) (cs : Array Value) (T : TypeId), W.heap[k]? = some (.cells cs T (0, 0)) → T ≠ 57 → T ≠ 53 → W'.heap[k]? = some (.cells cs T (0, 0))
theorem KeptT.refl (W : World) : KeptT W W := fun k cs T h _ _ => h
theorem KeptT.trans {W W' W2 : World} (h : KeptT W W') (h2 : KeptT W' W2) : KeptT W W2 := fun k cs T hk h3 h4 => h2 k cs T (h k cs T hk h3 h4) h3 h4
theorem KeptT.below {W W' : World} (hb : Below W.heap.size W W') : KeptT W W' := fun k cs T h _ _ => (hb.block k (Array.getElem?_eq_some_iff.1 h).1).trans h
/- The tree, boxed, and the list that is gathered. -/
structure GL (w W : World) (BT BL n0 : Nat) (t : Tr) (vl : Value) (l : List It) : Prop where
  tr : TrAt W BT t
  li : W.heap[BL]? = some (.cells #[vl] 53 (0, 0))
  row : W.ownsRow n0 57 6 vl l.length (isl l)
  bel : Below w.heap.size w W
  bt : BT < n0
  bl : BL < n0
  ne : BT ≠ BL
  wl : w.heap.size ≤ BL
  sz : n0 ≤ W.heap.size
theorem GL.later {w W W' : World} {BT BL n0 : Nat} {t : Tr} {vl : Value} {l : List It} (h : GL w W BT BL n0 t vl l) (hb : Below W.heap.size W W') : GL w W' BT BL n0 t vl l :=
  ⟨h.tr.later hb, (hb.block BL (Array.getElem?_eq_some_iff.1 h.li).1).trans h.li, Rs.owns_later h.row hb, h.bel.trans (hb.mono h.bel.size), h.bt, h.bl, h.ne, h.wl, Nat.le_trans h.sz hb.size⟩
theorem GL.cell {w W : World} {BT BL n0 : Nat} {t : Tr} {vl : Value} {l : List It} (h : GL w W BT BL n0 t vl l) : W.cell? ⟨BL, 0, none⟩ = some vl := cell_of_row W BL 0 _ _ _ h.li
structure GH (w W W' : World) (BT BL n0 : Nat) (t : Tr) (vl : Value) (l : List It) : Prop where
  g : GL w W' BT BL n0 t vl l
  k : KeptT W W'
  sz : W.heap.size ≤ W'.heap.size
theorem GH.later {w W W' W2 : World} {BT BL n0 : Nat} {t : Tr} {vl : Value} {l : List It} (h : GH w W W' BT BL n0 t vl l) (hb : Below W'.heap.size W' W2) : GH w W W2 BT BL n0 t vl l :=
  ⟨h.g.later hb, h.k.trans (KeptT.below hb), Nat.le_trans h.sz hb.size⟩
def BxAt (w : World) (B : Nat) (a b : Ky) : Prop := w.heap[B]? = some (.cells #[.int .i64 a.bas, .int .i64 a.stp, .int .i64 b.bas, .int .i64 b.stp] 33 (0, 0))
theorem BxAt.cells {w : World} {B : Nat} {a b : Ky} (h : BxAt w B a b) : w.cell? ⟨B, 0, none⟩ = some (.int .i64 a.bas) ∧ w.cell? ⟨B, 1, none⟩ = some (.int .i64 a.stp) ∧ w.cell? ⟨B, 2, none⟩ = some (.int .i64 b.bas) ∧ w.cell? ⟨B, 3, none⟩ = some (.int .i64 b.stp) :=
  ⟨cell_of_row w B 0 _ _ _ h, cell_of_row w B 1 _ _ _ h, cell_of_row w B 2 _ _ _ h, cell_of_row w B 3 _ _ _ h⟩
theorem BxAt.later {w w' : World} {B : Nat} {a b : Ky} (h : BxAt w B a b) (hb : Below w.heap.size w w') : BxAt w' B a b := (hb.block B (Array.getElem?_eq_some_iff.1 h).1).trans h
theorem BxAt.set {w : World} {B : Nat} {a b : Ky} (h : BxAt w B a b) (c d : Ky) : BxAt ((((w.setCell ⟨B, 0, none⟩ (.int .i64 c.bas)).setCell ⟨B, 1, none⟩ (.int .i64 c.stp)).setCell ⟨B, 2, none⟩ (.int .i64 d.bas)).setCell ⟨B, 3, none⟩ (.int .i64 d.stp)) B c d := by
  have h3 := Rt.row_setCell (Rt.row_setCell (Rt.row_setCell (Rt.row_setCell h 0 (.int .i64 c.bas)) 1 (.int .i64 c.stp)) 2 (.int .i64 d.bas)) 3 (.int .i64 d.stp)
  exact h3
theorem set4_other {w : World} {B C : Nat} (h : C ≠ B) (v0 v1 v2 v3 : Value) : ((((w.setCell ⟨B, 0, none⟩ v0).setCell ⟨B, 1, none⟩ v1).setCell ⟨B, 2, none⟩ v2).setCell ⟨B, 3, none⟩ v3).heap[C]? = w.heap[C]? := by
  rw [Rt.other_setCell h, Rt.other_setCell h, Rt.other_setCell h, Rt.other_setCell h]
theorem set4_below {n : Nat} {w W : World} (h : Below n w W) {B : Nat} (hB : n ≤ B) (v0 v1 v2 v3 : Value) : Below n w ((((W.setCell ⟨B, 0, none⟩ v0).setCell ⟨B, 1, none⟩ v1).setCell ⟨B, 2, none⟩ v2).setCell ⟨B, 3, none⟩ v3) :=
  (((h.setCell (p := ⟨B, 0, none⟩) hB v0).setCell (p := ⟨B, 1, none⟩) hB v1).setCell (p := ⟨B, 2, none⟩) hB v2).setCell (p := ⟨B, 3, none⟩) hB v3
/- A box of its own is written. -/
theorem GH.four {w W W' : World} {BT BL n0 : Nat} {t : Tr} {vl : Value} {l : List It} (h : GH w W W' BT BL n0 t vl l) {A : Nat} {a b : Ky} (hx : BxAt W' A a b) (hA : W.heap.size ≤ A) (hw : w.heap.size ≤ W.heap.size) (v0 v1 v2 v3 : Value) :
    GH w W ((((W'.setCell ⟨A, 0, none⟩ v0).setCell ⟨A, 1, none⟩ v1).setCell ⟨A, 2, none⟩ v2).setCell ⟨A, 3, none⟩ v3) BT BL n0 t vl l := by
  have n1 : BT ≠ A := block_ne h.g.tr hx (by decide)
  have n2 : BL ≠ A := block_ne h.g.li hx (by decide)
  refine ⟨⟨(set4_other n1 _ _ _ _).trans h.g.tr, (set4_other n2 _ _ _ _).trans h.g.li, ?_, set4_below h.g.bel (by omega) _ _ _ _, h.g.bt, h.g.bl, h.g.ne, h.g.wl, by have := h.g.sz; simpa using this⟩, fun k cs T hk h1 h2 => ?_, ?_⟩
  · obtain ⟨q1, q2⟩ := h.g.row
    refine ⟨q1, ?_⟩
    rcases q2 with q2 | ⟨g, cap, cur, rfl, h3, h4, r⟩
    · exact .inl q2
    · exact .inr ⟨g, cap, cur, rfl, h3, (set4_other (block_ne h4 hx (by decide)) _ _ _ _).trans h4, r⟩
  · have hkl := (Array.getElem?_eq_some_iff.1 hk).1
    rw [set4_other (by omega)]
    exact h.k k cs T hk h1 h2
  · have := h.sz
    simpa using this
theorem GL.app {w W W1 : World} {BT BL n0 : Nat} {t : Tr} {vl v' : Value} {l : List It} {o : Obj} {x : It} (h : GL w W BT BL n0 t vl l) (hown : W1.ownsRow n0 57 6 v' (l.length + 1) (isl l ++ ics x)) (hg : (W.alloc o).grownBy W1 vl.ownBlock) :
    W1.heap[BL]? = some (.cells #[vl] 53 (0, 0)) ∧ GL w (W1.setCell ⟨BL, 0, none⟩ v') BT BL n0 t v' (l ++ [x]) := by
  have hs1 := h.tr.lt
  have hs2 := (Array.getElem?_eq_some_iff.1 h.li).1
  have blk : ∀ k, k < n0 → k < W.heap.size → W1.heap[k]? = W.heap[k]? := fun k hk hk2 => by
    rw [hg.block k (by simp; omega) (Rs.row_far h.row hk)]
    exact ((Below.refl _ W).alloc (Nat.le_refl _) o).block k (by omega)
  have hli : W1.heap[BL]? = some (.cells #[vl] 53 (0, 0)) := (blk _ h.bl hs2).trans h.li
  have hwl := h.wl
  have hbl := h.bl
  have hsz : n0 ≤ W1.heap.size := by have h1 := hg.size; have h2 := h.sz; simp at h1; omega
  refine ⟨hli, ⟨?_, ?_, ?_, ?_, h.bt, h.bl, h.ne, h.wl, by simpa using hsz⟩⟩
  · exact (Rt.other_setCell h.ne _ _).trans ((blk _ h.bt hs1).trans h.tr)
  · exact Rt.row_setCell hli 0 v'
  · rw [isl_snoc, List.length_append]
    exact Rs.owns_block hown fun j hj _ => Rt.other_setCell (by omega) _ _
  · refine Below.setCell (p := ⟨BL, 0, none⟩) ?_ h.wl _
    have b1 := h.bel.alloc h.bel.size o
    exact Below.grown b1 hg (by have := h.bel.size; simp; omega) fun j hj => by
      rcases Nat.lt_or_ge j n0 with hlt | hge
      · exact absurd hj.symm (Rs.row_far h.row hlt)
      · omega
theorem own_type {W : World} {b : Nat} {e : TypeId} {sz : Nat} {v : Value} {n : Nat} {xs : List Value} (h : W.ownsRow b e sz v n xs) {k : Nat} {cs : Array Value} {T : TypeId} {fz : Nat × Nat} (hk : W.heap[k]? = some (.cells cs T fz)) (hT : T ≠ e) : some k ≠ v.ownBlock := by
  intro he
  rcases h.2 with ⟨rfl, _⟩ | ⟨g, cap, cur, rfl, h3, h4, _⟩
  · simp [Value.ownBlock] at he
  · simp [Value.ownBlock] at he
    subst he
    rw [hk] at h4
    simp at h4
    exact hT h4.2.1
theorem GL.appK {w W W1 : World} {BT BL n0 : Nat} {t : Tr} {vl v' : Value} {l : List It} {o : Obj} (h : GL w W BT BL n0 t vl l) (hg : (W.alloc o).grownBy W1 vl.ownBlock) : KeptT W (W1.setCell ⟨BL, 0, none⟩ v') := fun k cs T hk h1 h2 => by
  have hkl := (Array.getElem?_eq_some_iff.1 hk).1
  have hne : k ≠ BL := block_ne hk h.li h2
  rw [Rt.other_setCell hne, hg.block k (by simp; omega) (own_type h.row hk h1)]
  exact (((Below.refl _ W).alloc (Nat.le_refl _) o).block k (by omega)).trans hk
def GiveP (w W W' : World) (BT BL n0 : Nat) (t : Tr) (l : List It) : Prop := ∃ vl', GL w W' BT BL n0 t vl' l ∧ KeptT W W'
theorem GiveP.of {w W W' : World} {BT BL n0 : Nat} {t : Tr} {l : List It} {v : Value} (h : GL w W' BT BL n0 t v l) (k : KeptT W W') : GiveP w W W' BT BL n0 t l := ⟨v, h, k⟩
set_option maxRecDepth 100000 in
set_option maxHeartbeats 2000000 in
theorem give_any (t : Tr) (v c : Nat) (hv : v < 21) (hc : c < 85) (he : t.ep < 9223372036854775808) (g1 : Gd (kyA t c).bas (kyA t c).stp) (g2 : Gd (t.ks v).bas (t.ks v).stp) {w W : World} {BT BL n0 : Nat} {vl : Value} {l : List It} (hG : GL w W BT BL n0 t vl l) (hlen : l.length ≤ 4096) :
    Calls Tryz.prog 58 #[.int .i64 (v : Int), .int .i64 (c : Int), .pointer (some ⟨BT, 0, none⟩), .pointer (some ⟨BL, 0, none⟩)] W fun e W' => e = .returned (.tuple #[]) ∧ GiveP w W W' BT BL n0 t (l ++ [mkI t v c]) := by
  have h1 := keyAt_any t c hc he
  have h2 := Rt.seal_yes (kyA t c).bas (kyA t c).stp (t.ks v).bas (t.ks v).stp g1 g2
  unfold KyE at h1
  have HI : Hid (mkI t v c = ⟨v, c, kyA t c, t.ks v⟩) := by show mkI t v c = _; unfold mkI; rw [kyA_in hv]
  obtain ⟨a, ha⟩ : ∃ a, kyA t c = a := ⟨_, rfl⟩
  obtain ⟨b, hb⟩ : ∃ b, t.ks v = b := ⟨_, rfl⟩
  rw [ha] at HI h2
  simp only [ha] at h1
  rw [hb] at HI h2
  have HB : Hid (t.ks v = b) := hb
  obtain ⟨ct, hct⟩ : ∃ c, tcs t = c := ⟨_, rfl⟩
  simp only [hct] at h1
  have HT : Hid (tcs t = ct) := hct
  obtain ⟨i0, hi, hz0, hz1, hz2⟩ := infoItem_parts
  have HL : Hid (l.length ≤ 4096) := hlen
  clear hct ha hb g1 g2 hlen
  have v0 : (0 : Int) ≤ (v : Int) := by omega
  have v1 : (v : Int) < 21 := by omega
  have hWw : w.heap.size ≤ W.heap.size := hG.bel.size
  have hG0 : GH w W W BT BL n0 t vl l := ⟨hG, KeptT.refl _, Nat.le_refl _⟩
  clear hG
  go_enter Tryz.func58, Tryz.ntmps58
  go_upto_region 0 with (fail)
  go_cut [6] (fun s6 wx => ∃ A, s6 = .pointer (some ⟨A, 0, none⟩) ∧ GH w W wx BT BL n0 t vl l ∧ BxAt wx A a b)
  case first =>
    have hS0 : GH w W W.drew BT BL n0 t vl l := hG0.later (drew_below _)
    clear hG0
    refine wp_region_held_drew (S := fun X => GH w W X BT BL n0 t vl l) (by kernel_rfl) hS0 (fun hHeld => ?_)
    refine wpAnyH_take (i := 0) (oi := { dst := some 9, op := Op.load 47 (Operand.tmp 2), type := _, pos := _, after := _, guard := none }) (v := .agg ct) rfl (by kernel_rfl) (by kernel_rfl) (by kernel_rfl) (fun _ _ _ h => h) (Or.inl ⟨by rfl, fun w hSw => ld_exec (HT.out ▸ hSw.g.tr.whole) rfl rfl⟩) (by assumption) ?_
    simp only [Act.put, List.setIfInBounds_toArray, List.set_cons_zero, List.set_cons_succ]
    refine wpAnyH_take (i := 1) (oi := { dst := some 10, op := Op.move (Operand.tmp 1), type := _, pos := _, after := _, guard := none }) (v := .int .i64 (c : Int)) rfl (by kernel_rfl) (by kernel_rfl) (by kernel_rfl) (fun _ _ _ h => h) (Or.inl ⟨by rfl, fun w hSw => by (try dsimp only at hSw); go_simp⟩) (by assumption) ?_
    simp only [Act.put, List.setIfInBounds_toArray, List.set_cons_zero, List.set_cons_succ]
    refine wpAnyH_take (i := 3) (oi := { dst := some 12, op := Op.move (Operand.tmp 0), type := _, pos := _, after := _, guard := none }) (v := .int .i64 (v : Int)) rfl (by kernel_rfl) (by kernel_rfl) (by kernel_rfl) (fun _ _ _ h => h) (Or.inl ⟨by rfl, fun w hSw => by (try dsimp only at hSw); go_simp⟩) (by assumption) ?_
    simp only [Act.put, List.setIfInBounds_toArray, List.set_cons_zero, List.set_cons_succ]
    refine wpAnyH_take (i := 4) (oi := { dst := some 13, op := Op.fieldAddr 47 (Operand.tmp 2) 2, type := _, pos := _, after := _, guard := none }) (v := .pointer (some ⟨BT, 2, none⟩)) rfl (by kernel_rfl) (by kernel_rfl) (by kernel_rfl) (fun _ _ _ h => h) (Or.inl ⟨by rfl, fun w hSw => by (try dsimp only at hSw); go_simp⟩) (by assumption) ?_
    simp only [Act.put, List.setIfInBounds_toArray, List.set_cons_zero, List.set_cons_succ]
    refine wpAnyH_take (i := 5) (oi := { dst := some 14, op := Op.indexAddr 41 (Operand.tmp 13) (Operand.tmp 12), type := _, pos := _, after := _, guard := none }) (v := .pointer (some ⟨BT, 2 + v * 2, none⟩)) rfl (by kernel_rfl) (by kernel_rfl) (by kernel_rfl) (fun _ _ _ h => h) (Or.inl ⟨by rfl, fun w hSw => by (try dsimp only at hSw); go_simp⟩) (by assumption) ?_
    simp only [Act.put, List.setIfInBounds_toArray, List.set_cons_zero, List.set_cons_succ]
    refine wpAnyH_take (i := 6) (oi := { dst := some 15, op := Op.load 31 (Operand.tmp 14), type := _, pos := _, after := _, guard := none }) (v := .agg #[.int .i64 b.bas, .int .i64 b.stp]) rfl (by kernel_rfl) (by kernel_rfl) (by kernel_rfl) (fun _ _ _ h => h) (Or.inl ⟨by rfl, fun w hSw => by obtain ⟨c0, c1⟩ := hSw.g.tr.key v hv; rw [HB.out] at c0 c1; clear hSw; go_simp⟩) (by assumption) ?_
    simp only [Act.put, List.setIfInBounds_toArray, List.set_cons_zero, List.set_cons_succ]
    refine wpAnyH_ready (rs := [2, 11]) (by kernel_rfl) (by simp) ?_
    refine (AllReadyH.cons rfl (fun K hK => ?_) (AllReadyH.cons rfl (fun K hK => ?_) AllReadyH.nil))
    · go_simp
      refine (h1 _).mono ?_
      rintro r w5 ⟨rfl, hb5⟩
      go_wp2_with fail
      refine hK.out _ _ (hHeld.later hb5) (fun hHd1 => ?_)
      clear hHeld hb5
      clear hK K
      try simp only [Act.put, List.setIfInBounds_toArray, List.set_cons_zero, List.set_cons_succ]
      refine wpAnyH_ready (rs := [7, 11]) (by kernel_rfl) (by simp) ?_
      refine (AllReadyH.cons rfl (fun K hK => ?_) (AllReadyH.cons rfl (fun K hK => ?_) AllReadyH.nil))
      · go_simp
        refine (h2 _).mono ?_
        rintro r w6 ⟨rfl, hb6⟩
        go_wp2_with fail
        refine hK.out _ _ (hHd1.later hb6) (fun hHd2 => ?_)
        clear hHd1 hb6
        clear hK K
        try simp only [Act.put, List.setIfInBounds_toArray, List.set_cons_zero, List.set_cons_succ]
        refine wpAnyH_take (i := 8) (oi := { dst := some 8, op := Op.move (Operand.tmp 16), type := _, pos := _, after := _, guard := none }) (v := .tuple #[.agg #[.int .i64 a.bas, .int .i64 a.stp, .int .i64 b.bas, .int .i64 b.stp], .int .i64 0]) rfl (by kernel_rfl) (by kernel_rfl) (by kernel_rfl) (fun _ _ _ h => h) (Or.inl ⟨by rfl, fun w hSw => by (try dsimp only at hSw); go_simp⟩) (by assumption) ?_
        simp only [Act.put, List.setIfInBounds_toArray, List.set_cons_zero, List.set_cons_succ]
        refine wpAnyH_take (i := 9) (oi := { dst := some 17, op := Op.extract (Operand.tmp 8) 0, type := _, pos := _, after := _, guard := none }) (v := .agg #[.int .i64 a.bas, .int .i64 a.stp, .int .i64 b.bas, .int .i64 b.stp]) rfl (by kernel_rfl) (by kernel_rfl) (by kernel_rfl) (fun _ _ _ h => h) (Or.inl ⟨by rfl, fun w hSw => by (try dsimp only at hSw); go_simp⟩) (by assumption) ?_
        simp only [Act.put, List.setIfInBounds_toArray, List.set_cons_zero, List.set_cons_succ]
        refine wpAnyH_take (i := 10) (oi := { dst := some 18, op := Op.extract (Operand.tmp 8) 1, type := _, pos := _, after := _, guard := none }) (v := .int .i64 0) rfl (by kernel_rfl) (by kernel_rfl) (by kernel_rfl) (fun _ _ _ h => h) (Or.inl ⟨by rfl, fun w hSw => by (try dsimp only at hSw); go_simp⟩) (by assumption) ?_
        simp only [Act.put, List.setIfInBounds_toArray, List.set_cons_zero, List.set_cons_succ]
        refine wpAnyH_ready (rs := [11]) (by kernel_rfl) (by simp) ?_
        refine AllReadyH.cons rfl (fun K hK => ?_) AllReadyH.nil
        go_simp
        have hpre := hHd2
        refine hK.out _ _ (hHd2.later (below_alloc _ _)) (fun hHd3 => ?_)
        clear hK K
        try simp only [Act.put, List.setIfInBounds_toArray, List.set_cons_zero, List.set_cons_succ]
        refine wpAnyH_ready (rs := [12]) (by kernel_rfl) (by simp) ?_
        refine AllReadyH.cons rfl (fun K hK => ?_) AllReadyH.nil
        go_simp
        first | (refine hK.out _ _ (hpre.later (below_alloc _ _)) (fun hHd4 => ?_); have hbxZ : BxAt (w6.alloc (.cells #[.int .i64 a.bas, .int .i64 a.stp, .int .i64 b.bas, .int .i64 b.stp] 33)) w6.heap.size a b := heap_alloc_last w6 _) | (refine hK.out _ _ (hHd3.four hbx6 hA hWw _ _ _ _) (fun hHd4 => ?_); have hbxZ := BxAt.set hbx6 a b)
        clear hK K
        try simp only [Act.put, List.setIfInBounds_toArray, List.set_cons_zero, List.set_cons_succ]
        refine wpAnyH_take (i := 13) (oi := { dst := some 7, op := Op.assign (Operand.tmp 18), type := _, pos := _, after := _, guard := none }) (v := .int .i64 0) rfl (by kernel_rfl) (by kernel_rfl) (by kernel_rfl) (fun _ _ _ h => h) (Or.inl ⟨by rfl, fun w hSw => by (try dsimp only at hSw); go_simp⟩) (by assumption) ?_
        simp only [Act.put, List.setIfInBounds_toArray, List.set_cons_zero, List.set_cons_succ]
        refine wpAnyH_done (by kernel_rfl) ?_ _
        go_wp2_with fail
        go_meet
        case rel => exact ⟨_, rfl, hHd4, hbxZ⟩
      · go_simp
        have hbx5 : BxAt (w5.alloc (.cells #[.int .i64 0, .int .i64 0, .int .i64 0, .int .i64 0] 33)) w5.heap.size zK zK := heap_alloc_last w5 _
        have hA : W.heap.size ≤ w5.heap.size := hHd1.sz
        refine hK.out _ _ (hHd1.later (below_alloc _ _)) (fun hHd2 => ?_)
        clear hHd1
        clear hK K
        try simp only [Act.put, List.setIfInBounds_toArray, List.set_cons_zero, List.set_cons_succ]
        refine wpAnyH_ready (rs := [7]) (by kernel_rfl) (by simp) ?_
        refine AllReadyH.cons rfl (fun K hK => ?_) AllReadyH.nil
        go_simp
        refine (h2 _).mono ?_
        rintro r w6 ⟨rfl, hb6⟩
        go_wp2_with fail
        have hbx6 := hbx5.later hb6
        obtain ⟨k0, k1, k2, k3⟩ := hbx6.cells
        have f0 := Rt.row_frozen hbx6 0
        have f1 := Rt.row_frozen hbx6 1
        have f2 := Rt.row_frozen hbx6 2
        have f3 := Rt.row_frozen hbx6 3
        refine hK.out _ _ (hHd2.later hb6) (fun hHd3 => ?_)
        clear hHd2 hb6 hbx5
        clear hK K
        try simp only [Act.put, List.setIfInBounds_toArray, List.set_cons_zero, List.set_cons_succ]
        refine wpAnyH_take (i := 8) (oi := { dst := some 8, op := Op.move (Operand.tmp 16), type := _, pos := _, after := _, guard := none }) (v := .tuple #[.agg #[.int .i64 a.bas, .int .i64 a.stp, .int .i64 b.bas, .int .i64 b.stp], .int .i64 0]) rfl (by kernel_rfl) (by kernel_rfl) (by kernel_rfl) (fun _ _ _ h => h) (Or.inl ⟨by rfl, fun w hSw => by (try dsimp only at hSw); go_simp⟩) (by assumption) ?_
        simp only [Act.put, List.setIfInBounds_toArray, List.set_cons_zero, List.set_cons_succ]
        refine wpAnyH_take (i := 9) (oi := { dst := some 17, op := Op.extract (Operand.tmp 8) 0, type := _, pos := _, after := _, guard := none }) (v := .agg #[.int .i64 a.bas, .int .i64 a.stp, .int .i64 b.bas, .int .i64 b.stp]) rfl (by kernel_rfl) (by kernel_rfl) (by kernel_rfl) (fun _ _ _ h => h) (Or.inl ⟨by rfl, fun w hSw => by (try dsimp only at hSw); go_simp⟩) (by assumption) ?_
        simp only [Act.put, List.setIfInBounds_toArray, List.set_cons_zero, List.set_cons_succ]
        refine wpAnyH_take (i := 10) (oi := { dst := some 18, op := Op.extract (Operand.tmp 8) 1, type := _, pos := _, after := _, guard := none }) (v := .int .i64 0) rfl (by kernel_rfl) (by kernel_rfl) (by kernel_rfl) (fun _ _ _ h => h) (Or.inl ⟨by rfl, fun w hSw => by (try dsimp only at hSw); go_simp⟩) (by assumption) ?_
        simp only [Act.put, List.setIfInBounds_toArray, List.set_cons_zero, List.set_cons_succ]
        refine wpAnyH_ready (rs := [12]) (by kernel_rfl) (by simp) ?_
        refine AllReadyH.cons rfl (fun K hK => ?_) AllReadyH.nil
        go_simp
        first | (refine hK.out _ _ (hpre.later (below_alloc _ _)) (fun hHd4 => ?_); have hbxZ : BxAt (w6.alloc (.cells #[.int .i64 a.bas, .int .i64 a.stp, .int .i64 b.bas, .int .i64 b.stp] 33)) w6.heap.size a b := heap_alloc_last w6 _) | (refine hK.out _ _ (hHd3.four hbx6 hA hWw _ _ _ _) (fun hHd4 => ?_); have hbxZ := BxAt.set hbx6 a b)
        clear hK K
        try simp only [Act.put, List.setIfInBounds_toArray, List.set_cons_zero, List.set_cons_succ]
        refine wpAnyH_take (i := 13) (oi := { dst := some 7, op := Op.assign (Operand.tmp 18), type := _, pos := _, after := _, guard := none }) (v := .int .i64 0) rfl (by kernel_rfl) (by kernel_rfl) (by kernel_rfl) (fun _ _ _ h => h) (Or.inl ⟨by rfl, fun w hSw => by (try dsimp only at hSw); go_simp⟩) (by assumption) ?_
        simp only [Act.put, List.setIfInBounds_toArray, List.set_cons_zero, List.set_cons_succ]
        refine wpAnyH_done (by kernel_rfl) ?_ _
        go_wp2_with fail
        go_meet
        case rel => exact ⟨_, rfl, hHd4, hbxZ⟩
    · go_simp
      have hbx : BxAt (W.drew.alloc (.cells #[.int .i64 0, .int .i64 0, .int .i64 0, .int .i64 0] 33)) W.heap.size zK zK := heap_alloc_last W.drew _
      have hA : W.heap.size ≤ W.heap.size := Nat.le_refl _
      refine hK.out _ _ (hHeld.later (below_alloc _ _)) (fun hHd1 => ?_)
      clear hHeld
      clear hK K
      try simp only [Act.put, List.setIfInBounds_toArray, List.set_cons_zero, List.set_cons_succ]
      refine wpAnyH_ready (rs := [2]) (by kernel_rfl) (by simp) ?_
      refine AllReadyH.cons rfl (fun K hK => ?_) AllReadyH.nil
      go_simp
      refine (h1 _).mono ?_
      rintro r w5 ⟨rfl, hb5⟩
      go_wp2_with fail
      have hbx5 := hbx.later hb5
      refine hK.out _ _ (hHd1.later hb5) (fun hHd2 => ?_)
      clear hHd1 hb5 hbx
      clear hK K
      try simp only [Act.put, List.setIfInBounds_toArray, List.set_cons_zero, List.set_cons_succ]
      refine wpAnyH_ready (rs := [7]) (by kernel_rfl) (by simp) ?_
      refine AllReadyH.cons rfl (fun K hK => ?_) AllReadyH.nil
      go_simp
      refine (h2 _).mono ?_
      rintro r w6 ⟨rfl, hb6⟩
      go_wp2_with fail
      have hbx6 := hbx5.later hb6
      obtain ⟨k0, k1, k2, k3⟩ := hbx6.cells
      have f0 := Rt.row_frozen hbx6 0
      have f1 := Rt.row_frozen hbx6 1
      have f2 := Rt.row_frozen hbx6 2
      have f3 := Rt.row_frozen hbx6 3
      refine hK.out _ _ (hHd2.later hb6) (fun hHd3 => ?_)
      clear hHd2 hb6 hbx5
      clear hK K
      try simp only [Act.put, List.setIfInBounds_toArray, List.set_cons_zero, List.set_cons_succ]
      refine wpAnyH_take (i := 8) (oi := { dst := some 8, op := Op.move (Operand.tmp 16), type := _, pos := _, after := _, guard := none }) (v := .tuple #[.agg #[.int .i64 a.bas, .int .i64 a.stp, .int .i64 b.bas, .int .i64 b.stp], .int .i64 0]) rfl (by kernel_rfl) (by kernel_rfl) (by kernel_rfl) (fun _ _ _ h => h) (Or.inl ⟨by rfl, fun w hSw => by (try dsimp only at hSw); go_simp⟩) (by assumption) ?_
      simp only [Act.put, List.setIfInBounds_toArray, List.set_cons_zero, List.set_cons_succ]
      refine wpAnyH_take (i := 9) (oi := { dst := some 17, op := Op.extract (Operand.tmp 8) 0, type := _, pos := _, after := _, guard := none }) (v := .agg #[.int .i64 a.bas, .int .i64 a.stp, .int .i64 b.bas, .int .i64 b.stp]) rfl (by kernel_rfl) (by kernel_rfl) (by kernel_rfl) (fun _ _ _ h => h) (Or.inl ⟨by rfl, fun w hSw => by (try dsimp only at hSw); go_simp⟩) (by assumption) ?_
      simp only [Act.put, List.setIfInBounds_toArray, List.set_cons_zero, List.set_cons_succ]
      refine wpAnyH_take (i := 10) (oi := { dst := some 18, op := Op.extract (Operand.tmp 8) 1, type := _, pos := _, after := _, guard := none }) (v := .int .i64 0) rfl (by kernel_rfl) (by kernel_rfl) (by kernel_rfl) (fun _ _ _ h => h) (Or.inl ⟨by rfl, fun w hSw => by (try dsimp only at hSw); go_simp⟩) (by assumption) ?_
      simp only [Act.put, List.setIfInBounds_toArray, List.set_cons_zero, List.set_cons_succ]
      refine wpAnyH_ready (rs := [12]) (by kernel_rfl) (by simp) ?_
      refine AllReadyH.cons rfl (fun K hK => ?_) AllReadyH.nil
      go_simp
      first | (refine hK.out _ _ (hpre.later (below_alloc _ _)) (fun hHd4 => ?_); have hbxZ : BxAt (w6.alloc (.cells #[.int .i64 a.bas, .int .i64 a.stp, .int .i64 b.bas, .int .i64 b.stp] 33)) w6.heap.size a b := heap_alloc_last w6 _) | (refine hK.out _ _ (hHd3.four hbx6 hA hWw _ _ _ _) (fun hHd4 => ?_); have hbxZ := BxAt.set hbx6 a b)
      clear hK K
      try simp only [Act.put, List.setIfInBounds_toArray, List.set_cons_zero, List.set_cons_succ]
      refine wpAnyH_take (i := 13) (oi := { dst := some 7, op := Op.assign (Operand.tmp 18), type := _, pos := _, after := _, guard := none }) (v := .int .i64 0) rfl (by kernel_rfl) (by kernel_rfl) (by kernel_rfl) (fun _ _ _ h => h) (Or.inl ⟨by rfl, fun w hSw => by (try dsimp only at hSw); go_simp⟩) (by assumption) ?_
      simp only [Act.put, List.setIfInBounds_toArray, List.set_cons_zero, List.set_cons_succ]
      refine wpAnyH_done (by kernel_rfl) ?_ _
      go_wp2_with fail
      go_meet
      case rel => exact ⟨_, rfl, hHd4, hbxZ⟩
  case rest =>
    obtain ⟨A, rfl, hG9, hbx9⟩ := hcut
    obtain ⟨k0, k1, k2, k3⟩ := hbx9.cells
    have hcl := hG9.g.cell
    have hrow := hG9.g.row
    obtain ⟨a1, cap1, rfl⟩ := Rs.owns_slice hrow
    have HG : Hid (GH w W wc BT BL n0 t (.slice a1 l.length cap1) l) := hG9
    have hlen := HL.out
    have hn0 : n0 ≤ wc.heap.size := HG.out.g.sz
    clear hG9 hbx9 h1 h2 hG0 hWw he hv hc v0 v1
    go_wp2_with (at_builtin; (refine wpList_append_own _ rfl _ _ 53 rfl n0 57 i0 (.agg #[.int .i64 0, .int .i64 0, .int .i64 0, .int .i64 0, .int .i64 0, .int .i64 0]) 6 48 Tryz.underlying53 hi hz0 hz1 hz2 rfl (by decide) (.slice a1 l.length cap1) l.length (isl l) rfl (hrow.alloc _) ⟨wc.heap.size, 0, none⟩ 1 1 [.int .i64 (v : Int), .int .i64 (c : Int), .int .i64 a.bas, .int .i64 a.stp, .int .i64 b.bas, .int .i64 b.stp] rfl rfl (cell_row_new _ _ _) (by simp [Value.oneCell']) (by unfold maxLen; omega) (by omega) (by simp; omega) ?_); intro v' w3 hown' hg3 _; obtain ⟨a2, cap2, hv2⟩ := Rs.owns_slice hown'; subst hv2; have HAP : Hid (w3.heap[BL]? = some (.cells #[.slice a1 l.length cap1] 53 (0, 0)) ∧ GL w (w3.setCell ⟨BL, 0, none⟩ (.slice a2 (l.length + 1) cap2)) BT BL n0 t (.slice a2 (l.length + 1) cap2) (l ++ [⟨v, c, a, b⟩])) := HG.out.g.app (x := ⟨v, c, a, b⟩) hown' hg3; have HKP : Hid (KeptT wc (w3.setCell ⟨BL, 0, none⟩ (.slice a2 (l.length + 1) cap2))) := HG.out.g.appK (v' := .slice a2 (l.length + 1) cap2) hg3; clear hown' hg3; have hcB : w3.cell? ⟨BL, 0, none⟩ = some (.slice a1 l.length cap1) := cell_of_row w3 BL 0 _ _ _ HAP.out.1; have hfB : w3.frozen? ⟨BL, 0, none⟩ = false := Rt.row_frozen HAP.out.1 0)
    go_end0
    exact ⟨rfl, GiveP.of (by rw [HI.out]; exact HAP.out.2) (HG.out.k.trans HKP.out)⟩
end Go.Proofs.YtpimbpfefhkojabGreatDoor
