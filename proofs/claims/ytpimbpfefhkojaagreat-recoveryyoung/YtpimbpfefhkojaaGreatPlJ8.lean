/- RsMm, PlV1, PlW0, joined. -/
import Derived.Test.YtpimbpfefhkojaaGreatRsJ5
import Derived.Test.YtpimbpfefhkojaaGreatOpJ2
import Derived.Laws.AppendOwnNone
import Derived.Maps.AppendAt
import Derived.Test.YtpimbpfefhkojaaGreatPlJ7
import Derived.Great.BuildSlice
import Derived.Great.FillDense
/- Lists that are copied, lists that are written to, and what stays. -/
namespace Go.Proofs.YtpimbpfefhkojaaGreat.Rs
open Go.RowKit Go.Maps
set_option linter.unusedVariables false
set_option linter.unusedSimpArgs false

def i64s (l : List Int) : List Value := l.map fun n : Int => Value.int .i64 n
@[simp] theorem i64s_length (l : List Int) : (i64s l).length = l.length := by simp [i64s]
theorem i64s_one (l : List Int) : ∀ u ∈ i64s l, u.oneCell' = true := by
  intro u hu
  simp only [i64s, List.mem_map] at hu
  obtain ⟨_, _, rfl⟩ := hu
  rfl
theorem news_of_rd {w : World} {b o : Nat} {ws : List Int} (h : RdI w (some ⟨b, o, none⟩) ws) : ∀ j u, (i64s ws)[j]? = some u → w.cell? ((⟨b, o, none⟩ : Addr).add j) = some u := fun j u hu => by
  have hj : j < ws.length := by
    rcases Nat.lt_or_ge j (i64s ws).length with h' | h'
    · simpa using h'
    · rw [List.getElem?_eq_none h'] at hu; cases hu
  obtain ⟨b', o', e, c0⟩ := h j hj
  obtain ⟨eb, eo⟩ : b = b' ∧ o = o' := by simpa using e
  rw [← eb, ← eo] at c0
  rw [add_plain, c0]
  rw [← hu]
  simp [i64s, hj]
theorem rdi_of_row {w : World} {B g n cap : Nat} {ws : List Int} {ys : List Value} (h : w.ownsRow B 3 1 (.slice (some ⟨g, 0, none⟩) n cap) n (i64s ws ++ ys)) : RdI w (some ⟨g, 0, none⟩) ws := fun i hi => by
  have hl := h.1
  simp at hl
  refine ⟨g, 0, rfl, ?_⟩
  rw [Nat.zero_add, h.cellAt i (by omega), List.getElem?_append_left (by simpa using hi)]
  simp [i64s, hi]
theorem row_cap {w : World} {B g n cap : Nat} {xs : List Value} (h : w.ownsRow B 3 1 (.slice (some ⟨g, 0, none⟩) n cap) n xs) : n ≤ cap ∧ B ≤ g ∧ g < w.heap.size := by
  rcases h.2 with ⟨h0, _⟩ | ⟨g', cap', cur, h5, h3, h4, h6, _⟩
  · simp at h0
  · simp at h5
    obtain ⟨rfl, rfl⟩ := h5
    exact ⟨h6, h3, (Array.getElem?_eq_some_iff.1 h4).1⟩
theorem run_append_none_c {P : Program} {w : World} (base : Nat) (t ty e : TypeId) (i : TypeInfo) (size : Nat) (ht : P.underlying t = some (.slice e)) (hi : P.info? e = some i) (v : Value) (n : Nat) (xs : List Value) (hown : w.ownsRow base e size v n xs) (c : Nat) :
    (Builtin.append_ #[t, t] ty #[v, .slice none 0 c]).run P w = .ok v w := by
  rcases hown.2 with ⟨rfl, rfl⟩ | ⟨g, cap, cur, rfl, _, _, hnc, _⟩
  · simp [Builtin.append_, run_underlying ht, sizeOf, typeInfo, hi, Builtin.lenOf, Builtin.firstCells]
  · simp [Builtin.append_, run_underlying ht, sizeOf, typeInfo, hi, Builtin.lenOf, Builtin.firstCells, hnc, storeCells]
theorem append_rd {w : World} {ops : Array Oper} {rest : List Oper} {o : Oper} {a : Act} {Q : Exit → Act → World → Prop} (hgd : o.guard = none) (s x : Operand)
    (ho : o.op = .call { callee := .builtin .append, args := #[s, x], argTypes := #[ 43, 43 ] })
    (base : Nat) (v : Value) (n : Nat) (xs : List Value) (hs : a.eval s = v) (hown : w.ownsRow base 3 1 v n xs) (src : Option Addr) (c : Nat) (ws : List Int) (hx : a.eval x = .slice src ws.length c) (hrd : RdI w src ws)
    (h63 : n + ws.length ≤ maxLen) (hbytes : (n + ws.length) * 8 ≤ 140737488355328) (hbase : base ≤ w.heap.size)
    (h : ∀ v' w', w'.ownsRow base 3 1 v' (n + ws.length) (xs ++ i64s ws) → w.grownBy w' v.ownBlock → wpList Tryz.prog ops Q rest (a.put o.dst v') w') : wpList Tryz.prog ops Q (o :: rest) a w := by
  obtain ⟨i0, hi, hz0, hz1, hz2⟩ := info_parts infoInt
  cases src with
  | none =>
    have h0 : ws = [] := by
      cases ws with
      | nil => rfl
      | cons y r => obtain ⟨b, o, e, _⟩ := hrd 0 (by simp); cases e
    subst h0
    refine wpList_plain hgd fun K hK => ?_
    have hrun := run_append_none_c (P := Tryz.prog) (w := w) base 43 o.type 3 i0 1 Tryz.underlying43 hi v n xs hown c
    rw [List.length_nil] at hx
    unfold Oper.wp
    simp [execOp, ho, resolve, invoke, builtin, hs, hx, hrun, Result.andThen]
    exact hK _ _ (h v w (by simpa [i64s] using hown) (grown_refl _ _))
  | some ad =>
    refine wpList_append_own _ hgd s x 43 ho base 3 i0 _ 1 8 Tryz.underlying43 hi hz0 hz1 hz2 rfl (by decide) v n xs hs hown ad ws.length c (i64s ws) hx (by simp) ?_ (i64s_one _) h63 hbytes hbase fun v' w' h1 h2 _ => h v' w' h1 h2
    by_cases h0 : ws = []
    · intro j u hu
      rw [h0] at hu
      simp [i64s] at hu
    · obtain ⟨b, o', e, -⟩ := hrd.spot h0
      cases e
      exact news_of_rd hrd
/- A block of cells that may be written. -/
def Slot (W : World) (g : Nat) (t : TypeId) (n : Nat) : Prop := ∃ cs, W.heap[g]? = some (.cells cs t (0, 0)) ∧ n ≤ cs.size
theorem Slot.set {W : World} {g : Nat} {t : TypeId} {n : Nat} (h : Slot W g t n) (g' j : Nat) (u : Value) : Slot (W.setCell ⟨g', j, none⟩ u) g t n := by
  obtain ⟨cs, h1, h2⟩ := h
  by_cases e : g = g'
  · subst e
    exact ⟨_, row_setCell h1 j u, by simpa using h2⟩
  · exact ⟨cs, (other_setCell e j u).trans h1, h2⟩
theorem Slot.kept {W W' : World} {g : Nat} {t : TypeId} {n : Nat} (h : Slot W g t n) (he : W'.heap[g]? = W.heap[g]?) : Slot W' g t n := by
  obtain ⟨cs, h1, h2⟩ := h
  exact ⟨cs, he.trans h1, h2⟩
theorem Slot.lt {W : World} {g : Nat} {t : TypeId} {n : Nat} (h : Slot W g t n) : g < W.heap.size := by
  obtain ⟨cs, h1, h2⟩ := h
  exact (Array.getElem?_eq_some_iff.1 h1).1
theorem Slot.cell {W : World} {g : Nat} {t : TypeId} {n : Nat} (h : Slot W g t n) {j : Nat} (hj : j < n) : (∃ u, W.cell? ⟨g, j, none⟩ = some u) ∧ W.frozen? ⟨g, j, none⟩ = false := by
  obtain ⟨cs, h1, h2⟩ := h
  exact ⟨⟨cs[j]'(by omega), by rw [cell_of_row W g j _ _ _ h1]; exact Array.getElem?_eq_getElem (by omega)⟩, row_frozen h1 j⟩
theorem Slot.of_row {W : World} {b : Nat} {e : TypeId} {g n cap : Nat} {xs : List Value} (h : W.ownsRow b e 1 (.slice (some ⟨g, 0, none⟩) n cap) n xs) : Slot W g e n := by
  rcases h.2 with ⟨h0, _⟩ | ⟨g', cap', cur, h5, h3, h4, h6, h7, h8, _⟩
  · simp at h0
  · simp at h5
    obtain ⟨rfl, rfl⟩ := h5
    exact ⟨cur, h4, by omega⟩
theorem own_ge {W : World} {b : Nat} {e : TypeId} {sz : Nat} {v : Value} {n : Nat} {xs : List Value} (h : W.ownsRow b e sz v n xs) {g : Nat} (hg : v.ownBlock = some g) : b ≤ g ∧ g < W.heap.size := by
  rcases h.2 with ⟨rfl, _⟩ | ⟨g', cap, cur, rfl, h3, h4, _⟩
  · simp [Value.ownBlock] at hg
  · simp [Value.ownBlock] at hg
    subst hg
    exact ⟨h3, (Array.getElem?_eq_some_iff.1 h4).1⟩
theorem own_ne {W : World} {b : Nat} {e t : TypeId} {sz : Nat} {v : Value} {n m : Nat} {xs : List Value} (h : W.ownsRow b e sz v n xs) {g : Nat} (hs : Slot W g t m) (hne : e ≠ t) : v.ownBlock ≠ some g := fun hg => by
  rcases h.2 with ⟨rfl, _⟩ | ⟨g', cap, cur, rfl, h3, h4, _⟩
  · simp [Value.ownBlock] at hg
  · simp [Value.ownBlock] at hg
    subst hg
    obtain ⟨cs, h1, _⟩ := hs
    rw [h4] at h1
    simp at h1
    exact hne h1.2
theorem own_other {W W' : World} {b : Nat} {e : TypeId} {sz : Nat} {v : Value} {n : Nat} {xs : List Value} (h : W.ownsRow b e sz v n xs) (hk : ∀ g, v.ownBlock = some g → W'.heap[g]? = W.heap[g]?) : W'.ownsRow b e sz v n xs := by
  obtain ⟨h1, h2⟩ := h
  refine ⟨h1, ?_⟩
  rcases h2 with h2 | ⟨g, cap, cur, rfl, h3, h4, r⟩
  · exact .inl h2
  · exact .inr ⟨g, cap, cur, rfl, h3, (hk g (by simp [Value.ownBlock])).trans h4, r⟩
theorem own_set {W : World} {b : Nat} {e : TypeId} {sz : Nat} {v : Value} {n : Nat} {xs : List Value} (h : W.ownsRow b e sz v n xs) (g' j : Nat) (u : Value) : ∃ ys, (W.setCell ⟨g', j, none⟩ u).ownsRow b e sz v n ys := by
  rcases h.2 with ⟨rfl, h0⟩ | ⟨g, cap, cur, rfl, h3, h4, _⟩
  · exact ⟨xs, h.1, .inl ⟨rfl, h0⟩⟩
  · by_cases he : g = g'
    · subst he
      exact ⟨_, (h.stored j u).1⟩
    · refine ⟨xs, own_other h fun k hk => other_setCell ?_ j u⟩
      simp [Value.ownBlock] at hk
      subst hk
      exact he
theorem own_set_type {W : World} {b : Nat} {e t : TypeId} {sz : Nat} {v : Value} {n m : Nat} {xs : List Value} (h : W.ownsRow b e sz v n xs) {g' : Nat} (hs : Slot W g' t m) (hne : e ≠ t) (j : Nat) (u : Value) : (W.setCell ⟨g', j, none⟩ u).ownsRow b e sz v n xs :=
  own_other h fun k hk => other_setCell (fun he => own_ne h hs hne (by rw [hk, he])) j u
theorem own_cells {W : World} {b : Nat} {e : TypeId} {a : Option Addr} {n cap : Nat} {xs : List Value} (h : W.ownsRow b e 2 (.slice a n cap) n xs) {k : Nat} (hk : k < n) : ∃ g u0 u1, a = some ⟨g, 0, none⟩ ∧ W.cell? ⟨g, k * 2, none⟩ = some u0 ∧ W.cell? ⟨g, k * 2 + 1, none⟩ = some u1 ∧ W.frozen? ⟨g, k * 2, none⟩ = false ∧ W.frozen? ⟨g, k * 2 + 1, none⟩ = false := by
  rcases h.2 with ⟨h0, h00⟩ | ⟨g, cap', cur, h5, h3, h4, h6, h7, h8, _⟩
  · omega
  · simp at h5
    obtain ⟨rfl, rfl⟩ := h5
    exact ⟨g, cur[k * 2]'(by omega), cur[k * 2 + 1]'(by omega), rfl, by rw [cell_of_row W g _ _ _ _ h4]; exact Array.getElem?_eq_getElem (by omega), by rw [cell_of_row W g _ _ _ _ h4]; exact Array.getElem?_eq_getElem (by omega), row_frozen h4 _, row_frozen h4 _⟩
/- What stays, but for the blocks of P. -/
structure Ke (P : Nat → Prop) (V W : World) : Prop where
  size : V.heap.size ≤ W.heap.size
  block : ∀ k, k < V.heap.size → ¬ P k → W.heap[k]? = V.heap[k]?
theorem Ke.refl (P : Nat → Prop) (V : World) : Ke P V V := ⟨Nat.le_refl _, fun _ _ _ => rfl⟩
theorem Ke.set {P : Nat → Prop} {V W : World} (h : Ke P V W) {g : Nat} (hg : P g) (j : Nat) (u : Value) : Ke P V (W.setCell ⟨g, j, none⟩ u) :=
  ⟨by simpa using h.size, fun k hk hn => (other_setCell (fun e => hn (by rw [e]; exact hg)) j u).trans (h.block k hk hn)⟩
theorem Ke.grown {P : Nat → Prop} {V W W' : World} (h : Ke P V W) {o : Obj} {r : Option Nat} (hg : (W.alloc o).grownBy W' r) (hr : ∀ j, r = some j → j < V.heap.size → P j) : Ke P V W' := by
  have h1 := h.size
  have h2 := hg.size
  rw [World.size_alloc] at h2
  refine ⟨by omega, fun k hk hn => ?_⟩
  rw [hg.block k (by simp; omega) (fun e => hn (hr k e.symm hk))]
  exact (((Below.refl _ W).alloc (Nat.le_refl _) o).block k (by omega)).trans (h.block k hk hn)
theorem RdS.ke {P : Nat → Prop} {V W : World} {a : Option Addr} {l : List (Int × Int)} (h : RdS V a l) (hk : Ke P V W) (hne : ∀ b, a = some ⟨b, 0, none⟩ → ¬ P b) : RdS W a l := fun i hi => by
  obtain ⟨b, e, c0, c1⟩ := h i hi
  have hlt := World.block_lt_of_cell? V _ c0
  have hb := hk.block b hlt (hne b e)
  exact ⟨b, e, (World.cell?_of_block hb).trans c0, (World.cell?_of_block hb).trans c1⟩
/- Two rows of seats and two of numbers that are written to. -/
structure PA (w V W : World) (P : Nat → Prop) (s : Nat) (vl : Value) (NL : Nat) (Xl : List Value) (vj : Value) (NJ : Nat) (Xj : List Value) (ga gb nL nJ : Nat) : Prop where
  ke : Ke P V W
  bel : Below w.heap.size w W
  sa : Slot W ga 3 nL
  sb : Slot W gb 3 nJ
  ol : W.ownsRow s 93 2 vl NL Xl
  oj : W.ownsRow s 93 2 vj NJ Xj
  ap : vl.ownBlock = none ∨ vl.ownBlock ≠ vj.ownBlock
  ws : w.heap.size ≤ s
  wa : w.heap.size ≤ ga
  wb : w.heap.size ≤ gb
  vs : s ≤ V.heap.size
section
variable {w V W W' : World} {P : Nat → Prop} {s : Nat} {vl : Value} {NL : Nat} {Xl : List Value} {vj : Value} {NJ : Nat} {Xj : List Value} {ga gb nL nJ : Nat}
theorem PA.setS (h : PA w V W P s vl NL Xl vj NJ Xj ga gb nL nJ) {g : Nat} (hg : P g) (hw : w.heap.size ≤ g) (j : Nat) (u : Value) : ∃ Yl Yj, PA w V (W.setCell ⟨g, j, none⟩ u) P s vl NL Yl vj NJ Yj ga gb nL nJ := by
  obtain ⟨Yl, hl⟩ := own_set h.ol g j u
  obtain ⟨Yj, hj⟩ := own_set h.oj g j u
  exact ⟨Yl, Yj, h.ke.set hg j u, h.bel.setCell (p := ⟨g, j, none⟩) hw u, h.sa.set g j u, h.sb.set g j u, hl, hj, h.ap, h.ws, h.wa, h.wb, h.vs⟩
theorem PA.set2 (h : PA w V W P s vl NL Xl vj NJ Xj ga gb nL nJ) {g : Nat} (hg : P g) (hw : w.heap.size ≤ g) (j j' : Nat) (u u' : Value) : ∃ Yl Yj, PA w V ((W.setCell ⟨g, j, none⟩ u).setCell ⟨g, j', none⟩ u') P s vl NL Yl vj NJ Yj ga gb nL nJ := by
  obtain ⟨_, _, h1⟩ := h.setS hg hw j u
  exact h1.setS hg hw j' u'
theorem PA.setI (h : PA w V W P s vl NL Xl vj NJ Xj ga gb nL nJ) {g m : Nat} (hs : Slot W g 3 m) (hg : P g) (hw : w.heap.size ≤ g) (j : Nat) (u : Value) : PA w V (W.setCell ⟨g, j, none⟩ u) P s vl NL Xl vj NJ Xj ga gb nL nJ :=
  ⟨h.ke.set hg j u, h.bel.setCell (p := ⟨g, j, none⟩) hw u, h.sa.set g j u, h.sb.set g j u, own_set_type h.ol hs (by decide) j u, own_set_type h.oj hs (by decide) j u, h.ap, h.ws, h.wa, h.wb, h.vs⟩
theorem PA.appl {v' : Value} {n' : Nat} {X' : List Value} {o : Obj} (h : PA w V W P s vl NL Xl vj NJ Xj ga gb nL nJ) (hown : W'.ownsRow s 93 2 v' n' X') (hg : (W.alloc o).grownBy W' vl.ownBlock) (hat : v'.ownBlock = vl.ownBlock ∨ v'.ownBlock = some (W.alloc o).heap.size) (hP : ∀ g, vl.ownBlock = some g → g < V.heap.size → P g) : PA w V W' P s v' n' X' vj NJ Xj ga gb nL nJ := by
  have hs := h.ke.size
  have hv := h.vs
  have hw := h.ws
  have lt : ∀ g, g < W.heap.size → vl.ownBlock ≠ some g → W'.heap[g]? = W.heap[g]? := fun g hlt hne => by
    rw [hg.block g (by simp; omega) (fun e => hne e.symm)]
    exact ((Below.refl _ W).alloc (Nat.le_refl _) o).block g hlt
  have hj : W'.ownsRow s 93 2 vj NJ Xj := own_other h.oj fun g hgj => lt g (own_ge h.oj hgj).2 (fun e => by
    rcases h.ap with h0 | h0
    · rw [h0] at e; cases e
    · exact h0 (e.trans hgj.symm))
  refine ⟨h.ke.grown hg hP, ?_, h.sa.kept (lt _ h.sa.lt (own_ne h.ol h.sa (by decide))), h.sb.kept (lt _ h.sb.lt (own_ne h.ol h.sb (by decide))), hown, hj, ?_, hw, h.wa, h.wb, hv⟩
  · exact grown_bel h.bel h.ol hw hg
  · rcases hat with e | e
    · rw [e]; exact h.ap
    · refine .inr fun e2 => ?_
      rw [e] at e2
      have := (own_ge h.oj e2.symm).2
      simp at this
      omega
theorem PA.appj {v' : Value} {n' : Nat} {X' : List Value} {o : Obj} (h : PA w V W P s vl NL Xl vj NJ Xj ga gb nL nJ) (hown : W'.ownsRow s 93 2 v' n' X') (hg : (W.alloc o).grownBy W' vj.ownBlock) (hat : v'.ownBlock = vj.ownBlock ∨ v'.ownBlock = some (W.alloc o).heap.size) (hP : ∀ g, vj.ownBlock = some g → g < V.heap.size → P g) : PA w V W' P s vl NL Xl v' n' X' ga gb nL nJ := by
  have hs := h.ke.size
  have hv := h.vs
  have hw := h.ws
  have lt : ∀ g, g < W.heap.size → vj.ownBlock ≠ some g → W'.heap[g]? = W.heap[g]? := fun g hlt hne => by
    rw [hg.block g (by simp; omega) (fun e => hne e.symm)]
    exact ((Below.refl _ W).alloc (Nat.le_refl _) o).block g hlt
  have hl : W'.ownsRow s 93 2 vl NL Xl := own_other h.ol fun g hgj => lt g (own_ge h.ol hgj).2 (fun e => by
    rcases h.ap with h0 | h0
    · rw [h0] at hgj; cases hgj
    · exact h0 (hgj.trans e.symm))
  refine ⟨h.ke.grown hg hP, ?_, h.sa.kept (lt _ h.sa.lt (own_ne h.oj h.sa (by decide))), h.sb.kept (lt _ h.sb.lt (own_ne h.oj h.sb (by decide))), hl, hown, ?_, hw, h.wa, h.wb, hv⟩
  · exact grown_bel h.bel h.oj hw hg
  · rcases hat with e | e
    · rw [e]; exact h.ap
    · refine .inr fun e2 => ?_
      rw [e] at e2
      have := (own_ge h.ol e2).2
      simp at this
      omega
end
theorem row_last {W : World} {b : Nat} {e : TypeId} {v : Value} {n : Nat} {X : List Value} {x y : Value} (h : W.ownsRow b e 2 v (n + 1) (X ++ [x, y])) : ∃ g cap, v = .slice (some ⟨g, 0, none⟩) (n + 1) cap ∧ W.cell? ⟨g, n * 2, none⟩ = some x := by
  have hl := h.1
  simp at hl
  rcases h.2 with ⟨_, h0⟩ | ⟨g, cap, cur, rfl, h3, h4, _⟩
  · omega
  · refine ⟨g, cap, rfl, ?_⟩
    rw [h.cellAt (n * 2) (by omega), List.getElem?_append_right (by omega), show n * 2 - X.length = 0 by omega]
    rfl
theorem mvL_len (f : Nat → En) (L J : List Int) (sc bs : Int) (h : L.length * 8 ≤ 140737488351232) : (mvL f L J sc bs).length ≤ 256 := by
  unfold mvL
  split
  · rename_i h0
    rw [evl_length]
    exact Nat.le_trans (mvE_zero h0).1.lenL (by decide)
  · simp
theorem mvJ_len (f : Nat → En) (L J : List Int) (sc bs : Int) (h : J.length * 8 ≤ 140737488351232) : (mvJ f L J sc bs).length ≤ 1024 := by
  unfold mvJ
  split
  · rename_i h0
    rw [adl_length]
    have h1 := (mvE_zero h0).1.room
    have h2 := (mvE_zero h0).1.lenL
    omega
  · simp
end Go.Proofs.YtpimbpfefhkojaaGreat.Rs
/- A block that an append leaves; rows of unlike types lie apart. -/
namespace Go.Proofs.YtpimbpfefhkojaaGreat
open Go.RowKit Go.Maps
open Rs (Slot own_ne)
set_option linter.unusedVariables false
set_option linter.unusedSimpArgs false

section
variable {W W' : World}
theorem grown_lt {v : Value} {o : Obj} (hg : (W.alloc o).grownBy W' v.ownBlock) {g : Nat} (hlt : g < W.heap.size) (hne : v.ownBlock ≠ some g) : W'.heap[g]? = W.heap[g]? := by
  rw [hg.block g (by simp; omega) (fun e => hne e.symm)]
  exact ((Below.refl _ W).alloc (Nat.le_refl _) o).block g hlt
theorem own_ne2 {b b' : Nat} {e e' : TypeId} {sz sz' : Nat} {v v' : Value} {n n' : Nat} {xs xs' : List Value} (h : W.ownsRow b e sz v n xs) (h' : W.ownsRow b' e' sz' v' n' xs') (hne : e ≠ e') {g : Nat} (hg : v'.ownBlock = some g) : v.ownBlock ≠ some g := by
  rcases h'.2 with ⟨rfl, _⟩ | ⟨g', cap, cur, rfl, h3, h4, _⟩
  · simp [Value.ownBlock] at hg
  · simp [Value.ownBlock] at hg
    subst hg
    exact own_ne h ⟨cur, h4, Nat.zero_le _⟩ hne
end
end Go.Proofs.YtpimbpfefhkojaaGreat
/- Rows of trees in memory. -/
namespace Go.Proofs.YtpimbpfefhkojaaGreat
open Go.RowKit Go.Maps
open Rt (Ky zK KyAt)
open Rs (En zE rcs tkn fnd RdS RdI ps)
open Sh (belB lef)
set_option linter.unusedVariables false
set_option linter.unusedSimpArgs false

def trl (ts : List Tr) : List Value := ts.flatMap fun t => (tcs t).toList
theorem trl_snoc (ts : List Tr) (t : Tr) : trl (ts ++ [t]) = trl ts ++ (tcs t).toList := by simp [trl]
theorem trl_len (ts : List Tr) : (trl ts).length = ts.length * 236 := by
  induction ts with
  | nil => rfl
  | cons t ts ih =>
    have e : trl (t :: ts) = (tcs t).toList ++ trl ts := rfl
    rw [e, List.length_append, ih, Array.length_toList, tcs_size, List.length_cons]
    omega
theorem trl_get : ∀ (ts : List Tr) (i j : Nat), i < ts.length → j < 236 → (trl ts)[i * 236 + j]? = (tcs (ts.getD i (tz 0)))[j]?
  | [], i, j, hi, _ => by cases hi
  | t :: ts, 0, j, _, hj => by
    have e : trl (t :: ts) = (tcs t).toList ++ trl ts := rfl
    rw [e, Nat.zero_mul, Nat.zero_add, List.getElem?_append_left (by rw [Array.length_toList, tcs_size]; exact hj), Array.getElem?_toList]
    rfl
  | t :: ts, i + 1, j, hi, hj => by
    have e : trl (t :: ts) = (tcs t).toList ++ trl ts := rfl
    rw [e, List.getElem?_append_right (by rw [Array.length_toList, tcs_size]; omega), Array.length_toList, tcs_size, show (i + 1) * 236 + j - 236 = i * 236 + j by omega, trl_get ts i j (by simpa using hi) hj]
    rfl
theorem trl_one (ts : List Tr) : ∀ u ∈ trl ts, u.oneCell' = true := fun u hu => by
  unfold trl at hu
  obtain ⟨t, _, h⟩ := List.mem_flatMap.1 hu
  have := tcs_one t
  rw [Array.all_eq_true'] at this
  exact this u (Array.mem_toList_iff.1 h)
/- A row that may be read. -/
def RdR (w : World) (a : Option Addr) (ts : List Tr) : Prop := ∀ i, i < ts.length → ∃ b cs, a = some ⟨b, 0, none⟩ ∧ w.heap[b]? = some (.cells cs 31 (0, 0)) ∧ ∀ j, j < 236 → cs[i * 236 + j]? = (tcs (ts.getD i (tz 0)))[j]?
theorem RdR.later {w w' : World} {a : Option Addr} {ts : List Tr} (h : RdR w a ts) (hb : Below w.heap.size w w') : RdR w' a ts := fun i hi => by
  obtain ⟨b, cs, e, h1, h2⟩ := h i hi
  exact ⟨b, cs, e, (hb.block b (Array.getElem?_eq_some_iff.1 h1).1).trans h1, h2⟩
theorem owns_rdR {W : World} {b : Nat} {a : Option Addr} {cap : Nat} {ts : List Tr} (h : W.ownsRow b 31 236 (.slice a ts.length cap) ts.length (trl ts)) : RdR W a ts := fun i hi => by
  rcases h.2 with ⟨h0, h1⟩ | ⟨g, cap', cur, e, h3, h4, h5, h6, h7, h8⟩
  · omega
  · simp at e
    obtain ⟨rfl, rfl⟩ := e
    refine ⟨g, cur, rfl, h4, fun j hj => ?_⟩
    rw [← trl_get ts i j hi hj, ← h8, List.getElem?_take_of_lt (by omega)]
    simp
theorem RdR.tree {w : World} {a : Option Addr} {ts : List Tr} (h : RdR w a ts) {i : Nat} (hi : i < ts.length) {t : Tr} (ht : ts.getD i (tz 0) = t) : ∃ b, a = some ⟨b, 0, none⟩ ∧ (Instr.loadAt 31 (.pointer (some ⟨b, i * 236, none⟩))).run Tryz.prog w = .ok (.agg (tcs t)) w ∧ (Instr.loadAt 29 (.pointer (some ⟨b, i * 236 + 44, none⟩))).run Tryz.prog w = .ok (.agg (rcs t.ro)) w := by
  obtain ⟨b, cs, e, h1, h2⟩ := h i hi
  rw [ht] at h2
  refine ⟨b, e, part_run h1 Tryz.underlying31 rfl infoT (i * 236) (tcs_size t) h2, part_run h1 Tryz.underlying29 rfl (n := 192) ?_ (i * 236 + 44) (by simp) fun j hj => ?_⟩
  · kernel_rfl
  · rw [Nat.add_assoc, h2 (44 + j) (by omega), tcs_ro]
/- A slice literal of one tree. -/
theorem bsT {ops : Array Oper} {rest : List Oper} {o : Oper} {a : Act} {w : World} {Q : Exit → Act → World → Prop} {t : Tr} {c : Array Value} (hc : tcs t = c) (hg : o.guard = none) (x : Operand) (ho : o.op = .buildSlice 65 1 #[(0, x)]) (hx : a.eval x = .agg c)
    (h : wpList Tryz.prog ops Q rest (a.put o.dst (.slice (some ⟨w.heap.size, 0, none⟩) 1 1)) (w.alloc (.cells c 31))) : wpList Tryz.prog ops Q (o :: rest) a w := by
  have hsz : (Tryz.prog.info? 31).map (·.size) = some 236 := infoT
  cases hie : Tryz.prog.info? 31 with
  | none => rw [hie] at hsz; cases hsz
  | some ie =>
    rw [hie] at hsz
    simp at hsz
    have hzz : (Tryz.prog.info? 31).bind (·.zero) = some (.agg (tcs (tz 0))) := by rw [← zero236]; kernel_rfl
    rw [hie] at hzz
    have hz : ie.zero = some (.agg (tcs (tz 0))) := by simpa using hzz
    refine wpList_buildSlice hg 65 31 1 #[(0, x)] ho c ie _ Tryz.underlying65 hie hz (by rw [hsz]; decide) (by rw [hsz]; decide) ?_ h
    obtain ⟨r, h1, h2, h3⟩ := Great.fill_dense (s := 236) (by decide) [.agg c] 0 ((Array.range (1 * ie.size)).map ((Value.agg (tcs (tz 0))).cells[· % (Value.agg (tcs (tz 0))).cells.size]!)) (fun v hv => by
      rw [List.mem_singleton.1 hv]
      show c.size = 236
      rw [← hc]; exact tcs_size t) (by simp [hsz])
    have e : (#[(0, x)].map fun (y : Nat × Operand) => (y.1, a.eval y.2)).toList = ([Value.agg c].zipIdx 0).map fun x => (x.2, x.1) := by simp [hx]
    rw [show ((#[(0, x)] : Array (Nat × Operand)).map fun (i, x) => (i, a.eval x)).toList = ([Value.agg c].zipIdx 0).map fun x => (x.2, x.1) from e]
    rw [hsz] at h1 h2 h3 ⊢
    rw [h1]
    refine congrArg some ?_
    apply Array.ext_getElem?
    intro k
    rw [h3 k]
    have hcs : c.size = 236 := by rw [← hc]; exact tcs_size t
    by_cases hk : k < 236
    · rw [if_pos (by simp; omega), Nat.div_eq_of_lt hk, Nat.mod_eq_of_lt hk]
      rfl
    · rw [if_neg (by simp; omega), Array.getElem?_eq_none (by simp; omega), Array.getElem?_eq_none (by omega)]
end Go.Proofs.YtpimbpfefhkojaaGreat
