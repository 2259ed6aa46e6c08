/- A message whose lists are written to, and what stays. -/
import Derived.Test.YteocfmimgoocnaaGreatDoorRsJ5
import Derived.Test.YteocfmimgoocnaaGreatDoorPlJ5
import Derived.Maps.AppendAt
namespace Go.Proofs.YteocfmimgoocnaaGreatDoor
open Go.RowKit Go.Maps
open Rs (Ke Slot own_set own_ge own_ne own_other ps RdS RdI row_setCell other_setCell row_frozen grown_bel)
set_option linter.unusedVariables false
set_option linter.unusedSimpArgs false

theorem RdT.ke {P : Nat → Prop} {V W : World} {a : Option Addr} {l : List It} (h : RdT V a l) (hk : Ke P V W) (hne : ∀ b, a = some ⟨b, 0, none⟩ → ¬ P b) : RdT W a l := fun i hi => by
  obtain ⟨b, e, hc⟩ := h i hi
  refine ⟨b, e, fun k v hv => ?_⟩
  have c0 := hc k v hv
  have hlt := World.block_lt_of_cell? V _ c0
  exact (World.cell?_of_block (hk.block b hlt (hne b e))).trans c0
theorem own_cells6 {W : World} {b : Nat} {e : TypeId} {a : Option Addr} {n cap : Nat} {xs : List Value} (h : W.ownsRow b e 6 (.slice a n cap) n xs) {k : Nat} (hk : k < n) : ∃ g, a = some ⟨g, 0, none⟩ ∧ ∀ j, j < 6 → (∃ u, W.cell? ⟨g, k * 6 + j, none⟩ = some u) ∧ W.frozen? ⟨g, k * 6 + j, none⟩ = false := by
  rcases h.2 with ⟨h0, h00⟩ | ⟨g, cap', cur, h5, h3, h4, h6, h7, h8, _⟩
  · omega
  · simp at h5
    obtain ⟨rfl, rfl⟩ := h5
    exact ⟨g, rfl, fun j hj => ⟨⟨cur[k * 6 + j]'(by omega), by rw [cell_of_row W g _ _ _ _ h4]; exact Array.getElem?_eq_getElem (by omega)⟩, row_frozen h4 _⟩⟩
def Wb (s7 s9 ga gb : Nat) (k : Nat) : Prop := (s7 ≤ k ∧ k < s9) ∨ k = ga ∨ k = gb
structure PM (w V W : World) (s7 s9 BM ga gb nA nB : Nat) (p : Int) (vl vj vi : Value) (nl nj ni : Nat) : Prop where
  ke : Ke (Wb s7 s9 ga gb) V W
  bel : Below w.heap.size w W
  sa : Slot W ga 3 nA
  sb : Slot W gb 3 nB
  bm : W.heap[BM]? = some (.cells #[.int .i64 p, vl, vj, vi] 45 (0, 0))
  ol : ∃ xs, W.ownsRow s7 62 2 vl nl xs
  oj : ∃ xs, W.ownsRow s7 62 2 vj nj xs
  oi : ∃ xs, W.ownsRow s7 98 6 vi ni xs
  ap : vl.ownBlock = none ∨ vl.ownBlock ≠ vj.ownBlock
structure PC (w V : World) (s7 s9 BM ga gb : Nat) : Prop where
  ws : w.heap.size ≤ s7
  wa : w.heap.size ≤ ga
  wb : w.heap.size ≤ gb
  b7 : s7 ≤ BM
  b9 : BM < s9
  v9 : s9 ≤ V.heap.size
section
variable {w V W W' : World} {s7 s9 BM ga gb nA nB : Nat} {p : Int} {vl vj vi : Value} {nl nj ni : Nat}
theorem PM.set (h : PM w V W s7 s9 BM ga gb nA nB p vl vj vi nl nj ni) {g : Nat} (hP : Wb s7 s9 ga gb g) (hw : w.heap.size ≤ g) (hne : BM ≠ g) (j : Nat) (u : Value) : PM w V (W.setCell ⟨g, j, none⟩ u) s7 s9 BM ga gb nA nB p vl vj vi nl nj ni := by
  obtain ⟨xl, hl⟩ := h.ol
  obtain ⟨xj, hj⟩ := h.oj
  obtain ⟨xi, hi⟩ := h.oi
  exact ⟨h.ke.set hP j u, h.bel.setCell (p := ⟨g, j, none⟩) hw u, h.sa.set g j u, h.sb.set g j u, (other_setCell hne j u).trans h.bm, own_set hl g j u, own_set hj g j u, own_set hi g j u, h.ap⟩
theorem PM.set2 (h : PM w V W s7 s9 BM ga gb nA nB p vl vj vi nl nj ni) {g : Nat} (hP : Wb s7 s9 ga gb g) (hw : w.heap.size ≤ g) (hne : BM ≠ g) (j0 j1 : Nat) (u0 u1 : Value) : PM w V ((W.setCell ⟨g, j0, none⟩ u0).setCell ⟨g, j1, none⟩ u1) s7 s9 BM ga gb nA nB p vl vj vi nl nj ni := (h.set hP hw hne j0 u0).set hP hw hne j1 u1
theorem PM.set6 (h : PM w V W s7 s9 BM ga gb nA nB p vl vj vi nl nj ni) {g : Nat} (hP : Wb s7 s9 ga gb g) (hw : w.heap.size ≤ g) (hne : BM ≠ g) (j0 j1 j2 j3 j4 j5 : Nat) (u0 u1 u2 u3 u4 u5 : Value) : PM w V ((((((W.setCell ⟨g, j0, none⟩ u0).setCell ⟨g, j1, none⟩ u1).setCell ⟨g, j2, none⟩ u2).setCell ⟨g, j3, none⟩ u3).setCell ⟨g, j4, none⟩ u4).setCell ⟨g, j5, none⟩ u5) s7 s9 BM ga gb nA nB p vl vj vi nl nj ni := ((h.set2 hP hw hne j0 j1 u0 u1).set2 hP hw hne j2 j3 u2 u3).set2 hP hw hne j4 j5 u4 u5
theorem PM.lt (h : PM w V W s7 s9 BM ga gb nA nB p vl vj vi nl nj ni) : BM < W.heap.size := (Array.getElem?_eq_some_iff.1 h.bm).1
theorem PM.cells (h : PM w V W s7 s9 BM ga gb nA nB p vl vj vi nl nj ni) : W.cell? ⟨BM, 1, none⟩ = some vl ∧ W.cell? ⟨BM, 2, none⟩ = some vj ∧ W.cell? ⟨BM, 3, none⟩ = some vi := ⟨cell_of_row W BM 1 _ _ _ h.bm, cell_of_row W BM 2 _ _ _ h.bm, cell_of_row W BM 3 _ _ _ h.bm⟩
theorem grown_lt {v : Value} {o : Obj} (hg : (W.alloc o).grownBy W' v.ownBlock) {g : Nat} (hlt : g < W.heap.size) (hne : v.ownBlock ≠ some g) : W'.heap[g]? = W.heap[g]? := by
  rw [hg.block g (by simp; omega) (fun e => hne e.symm)]
  exact ((Below.refl _ W).alloc (Nat.le_refl _) o).block g hlt
theorem own_ne2 {b b' : Nat} {e e' : TypeId} {sz sz' : Nat} {v v' : Value} {n n' : Nat} {xs xs' : List Value} (h : W.ownsRow b e sz v n xs) (h' : W.ownsRow b' e' sz' v' n' xs') (hne : e ≠ e') {g : Nat} (hg : v'.ownBlock = some g) : v.ownBlock ≠ some g := by
  rcases h'.2 with ⟨rfl, _⟩ | ⟨g', cap, cur, rfl, h3, h4, _⟩
  · simp [Value.ownBlock] at hg
  · simp [Value.ownBlock] at hg
    subst hg
    exact own_ne h ⟨cur, h4, Nat.zero_le _⟩ hne
theorem bm_slot (h : PM w V W s7 s9 BM ga gb nA nB p vl vj vi nl nj ni) : Slot W BM 45 0 := ⟨_, h.bm, Nat.zero_le _⟩
/- A list of the message grows, and is put into it. -/
theorem PM.appI {v' : Value} {X' xs : List Value} {o : Obj} (h : PM w V W s7 s9 BM ga gb nA nB p vl vj vi nl nj ni) (hc : PC w V s7 s9 BM ga gb) (hx : W.ownsRow s7 98 6 vi ni xs) (hown : W'.ownsRow s7 98 6 v' (ni + 1) X') (hg : (W.alloc o).grownBy W' vi.ownBlock) (hP : ∀ g, vi.ownBlock = some g → g < s9) : PM w V (W'.setCell ⟨BM, 3, none⟩ v') s7 s9 BM ga gb nA nB p vl vj v' nl nj (ni + 1) := by
  obtain ⟨xl, hl⟩ := h.ol
  obtain ⟨xj, hj⟩ := h.oj
  have c1 := hc.ws
  have c2 := hc.b7
  have c3 := hc.b9
  have b1 : W'.heap[BM]? = W.heap[BM]? := grown_lt hg h.lt (own_ne hx (bm_slot h) (by decide))
  have hl' : W'.ownsRow s7 62 2 vl nl xl := own_other hl fun g hgj => grown_lt hg (own_ge hl hgj).2 (own_ne2 hx hl (by decide) hgj)
  have hj' : W'.ownsRow s7 62 2 vj nj xj := own_other hj fun g hgj => grown_lt hg (own_ge hj hgj).2 (own_ne2 hx hj (by decide) hgj)
  refine ⟨(h.ke.grown hg fun g e _ => .inl ⟨(own_ge hx e).1, hP g e⟩).set (.inl ⟨c2, c3⟩) 3 v', (grown_bel h.bel hx c1 hg).setCell (p := ⟨BM, 3, none⟩) (by show w.heap.size ≤ BM; omega) v', (h.sa.kept (grown_lt hg h.sa.lt (own_ne hx h.sa (by decide)))).set _ _ _, (h.sb.kept (grown_lt hg h.sb.lt (own_ne hx h.sb (by decide)))).set _ _ _, ?_, own_set hl' _ _ _, own_set hj' _ _ _, own_set hown _ _ _, h.ap⟩
  exact row_setCell (b1.trans h.bm) 3 v'
theorem PM.appL {v' : Value} {X' xs : List Value} {o : Obj} (h : PM w V W s7 s9 BM ga gb nA nB p vl vj vi nl nj ni) (hc : PC w V s7 s9 BM ga gb) (hx : W.ownsRow s7 62 2 vl nl xs) (hown : W'.ownsRow s7 62 2 v' (nl + 1) X') (hg : (W.alloc o).grownBy W' vl.ownBlock) (hat : v'.ownBlock = vl.ownBlock ∨ v'.ownBlock = some (W.alloc o).heap.size) (hP : ∀ g, vl.ownBlock = some g → g < s9) : PM w V (W'.setCell ⟨BM, 1, none⟩ v') s7 s9 BM ga gb nA nB p v' vj vi (nl + 1) nj ni := by
  obtain ⟨xj, hj⟩ := h.oj
  obtain ⟨xi, hi⟩ := h.oi
  have c1 := hc.ws
  have c2 := hc.b7
  have c3 := hc.b9
  have b1 : W'.heap[BM]? = W.heap[BM]? := grown_lt hg h.lt (own_ne hx (bm_slot h) (by decide))
  have hj' : W'.ownsRow s7 62 2 vj nj xj := own_other hj fun g hgj => grown_lt hg (own_ge hj hgj).2 (fun e => by
    rcases h.ap with h0 | h0
    · rw [h0] at e; cases e
    · exact h0 (e.trans hgj.symm))
  have hi' : W'.ownsRow s7 98 6 vi ni xi := own_other hi fun g hgj => grown_lt hg (own_ge hi hgj).2 (own_ne2 hx hi (by decide) hgj)
  refine ⟨(h.ke.grown hg fun g e _ => .inl ⟨(own_ge hx e).1, hP g e⟩).set (.inl ⟨c2, c3⟩) 1 v', (grown_bel h.bel hx c1 hg).setCell (p := ⟨BM, 1, none⟩) (by show w.heap.size ≤ BM; omega) v', (h.sa.kept (grown_lt hg h.sa.lt (own_ne hx h.sa (by decide)))).set _ _ _, (h.sb.kept (grown_lt hg h.sb.lt (own_ne hx h.sb (by decide)))).set _ _ _, ?_, own_set hown _ _ _, own_set hj' _ _ _, own_set hi' _ _ _, ?_⟩
  · exact row_setCell (b1.trans h.bm) 1 v'
  · rcases hat with e | e
    · rw [e]; exact h.ap
    · refine .inr fun e2 => ?_
      rw [e] at e2
      have := (own_ge hj e2.symm).2
      simp at this
      omega
/- The end: the last seat that joined stands, whatever numbers are written. -/
structure PE (w V W : World) (s7 s9 BM ga gb nA nB : Nat) (cs : Array Value) (gj n : Nat) (x : Value) : Prop where
  ke : Ke (Wb s7 s9 ga gb) V W
  bel : Below w.heap.size w W
  sa : Slot W ga 3 nA
  sb : Slot W gb 3 nB
  bm : W.heap[BM]? = some (.cells cs 45 (0, 0))
  sj : Slot W gj 62 0
  la : W.cell? ⟨gj, n, none⟩ = some x
theorem PM.appJ {v' : Value} {xs : List Value} {o : Obj} {x y : Value} (h : PM w V W s7 s9 BM ga gb nA nB p vl vj vi nl nj ni) (hc : PC w V s7 s9 BM ga gb) (hx : W.ownsRow s7 62 2 vj nj xs) (hown : W'.ownsRow s7 62 2 v' (nj + 1) (xs ++ [x, y])) (hg : (W.alloc o).grownBy W' vj.ownBlock) (hP : ∀ g, vj.ownBlock = some g → g < s9) : ∃ gj c, v' = .slice (some ⟨gj, 0, none⟩) (nj + 1) c ∧ PE w V (W'.setCell ⟨BM, 2, none⟩ v') s7 s9 BM ga gb nA nB #[.int .i64 p, vl, v', vi] gj (nj * 2) x := by
  have c1 := hc.ws
  have c2 := hc.b7
  have c3 := hc.b9
  have b1 : W'.heap[BM]? = W.heap[BM]? := grown_lt hg h.lt (own_ne hx (bm_slot h) (by decide))
  obtain ⟨gj, c, e, hcell⟩ := Rs.row_last hown
  have hb2 : Slot W' BM 45 0 := (bm_slot h).kept b1
  have hnj : gj ≠ BM := fun e2 => own_ne hown hb2 (by decide) (by rw [e, ← e2]; simp [Value.ownBlock])
  have hsj : Slot W' gj 62 0 := by
    rcases hown.2 with ⟨_, h0⟩ | ⟨g', cap, cur, e3, h3, h4, _⟩
    · omega
    · rw [e] at e3
      simp at e3
      obtain ⟨rfl, _⟩ := e3
      exact ⟨cur, h4, Nat.zero_le _⟩
  refine ⟨gj, c, e, (h.ke.grown hg fun g e _ => .inl ⟨(own_ge hx e).1, hP g e⟩).set (.inl ⟨c2, c3⟩) 2 v', (grown_bel h.bel hx c1 hg).setCell (p := ⟨BM, 2, none⟩) (by show w.heap.size ≤ BM; omega) v', (h.sa.kept (grown_lt hg h.sa.lt (own_ne hx h.sa (by decide)))).set _ _ _, (h.sb.kept (grown_lt hg h.sb.lt (own_ne hx h.sb (by decide)))).set _ _ _, row_setCell (b1.trans h.bm) 2 v', hsj.set _ _ _, ?_⟩
  exact (World.cell?_of_block (other_setCell hnj 2 v')).trans hcell
end
theorem slot_ne {W : World} {g g' : Nat} {t t' : TypeId} {n n' : Nat} (h : Slot W g t n) (h' : Slot W g' t' n') (hne : t ≠ t') : g ≠ g' := fun e => by
  subst e
  obtain ⟨cs, h1, _⟩ := h
  obtain ⟨cs', h2, _⟩ := h'
  rw [h1] at h2
  simp at h2
  exact hne h2.2
section
variable {w V W : World} {s7 s9 BM ga gb nA nB : Nat} {cs : Array Value} {gj n : Nat} {x : Value}
theorem PE.setI (h : PE w V W s7 s9 BM ga gb nA nB cs gj n x) {g m : Nat} (hs : Slot W g 3 m) (hP : Wb s7 s9 ga gb g) (hw : w.heap.size ≤ g) (j : Nat) (u : Value) : PE w V (W.setCell ⟨g, j, none⟩ u) s7 s9 BM ga gb nA nB cs gj n x :=
  ⟨h.ke.set hP j u, h.bel.setCell (p := ⟨g, j, none⟩) hw u, h.sa.set g j u, h.sb.set g j u, (other_setCell (slot_ne ⟨_, h.bm, Nat.zero_le _⟩ hs (by decide)) j u).trans h.bm, h.sj.set g j u, (World.cell?_of_block (other_setCell (slot_ne h.sj hs (by decide)) j u)).trans h.la⟩
end
end Go.Proofs.YteocfmimgoocnaaGreatDoor
