/- What a world has kept but for some blocks; texts and pieces that lie in memory. -/
import Derived.Test.YtohgflimdoebiaaFrMath
namespace Go.Proofs.Ytohgflimdoebiaa
open Go.RowKit Go.Maps
set_option linter.unusedVariables false
set_option maxRecDepth 4000
set_option linter.unusedSimpArgs false

structure Kept (F : Nat → Prop) (w w' : World) : Prop where
  os : w'.os = w.os
  tape : w'.tape = w.tape
  output : w'.output = w.output
  size : w.heap.size ≤ w'.heap.size
  block : ∀ k, k < w.heap.size → ¬ F k → w'.heap[k]? = w.heap[k]?
theorem Kept.refl (F : Nat → Prop) (w : World) : Kept F w w := ⟨rfl, rfl, rfl, Nat.le_refl _, fun _ _ _ => rfl⟩
theorem Kept.trans {F F' : Nat → Prop} {a b c : World} (h : Kept F a b) (k : Kept F' b c) (hF : ∀ i, i < a.heap.size → F' i → F i) : Kept F a c :=
  ⟨k.os.trans h.os, k.tape.trans h.tape, k.output.trans h.output, Nat.le_trans h.size k.size, fun i hi hn => (k.block i (Nat.lt_of_lt_of_le hi h.size) (fun h' => hn (hF i hi h'))).trans (h.block i hi hn)⟩
theorem Kept.mono {F F' : Nat → Prop} {a b : World} (h : Kept F a b) (hF : ∀ i, i < a.heap.size → F i → F' i) : Kept F' a b := ⟨h.os, h.tape, h.output, h.size, fun i hi hn => h.block i hi (fun h' => hn (hF i hi h'))⟩
theorem Kept.drew {F : Nat → Prop} {a w : World} (h : Kept F a w) : Kept F a w.drew := ⟨h.os, h.tape, h.output, h.size, h.block⟩
theorem Kept.alloc {F : Nat → Prop} {a w : World} (h : Kept F a w) (o : Obj) : Kept F a (w.alloc o) :=
  h.trans (F' := F) ⟨rfl, rfl, rfl, by simp, fun k hk _ => Below.heap_alloc _ _ _ hk⟩ (fun _ _ h => h)
theorem Kept.setCell {F : Nat → Prop} {a w : World} (h : Kept F a w) {p : Addr} (hp : p.block < a.heap.size → F p.block) (u : Value) : Kept F a (w.setCell p u) :=
  h.trans (F' := fun k => k = p.block) ⟨rfl, rfl, rfl, by simp [World.setCell], fun k hk hn => Below.heap_setCell _ _ _ _ hn⟩ (fun i hi e => by subst e; exact hp hi)
theorem Kept.grown {F : Nat → Prop} {a w w' : World} {row : Option Nat} (h : Kept F a w) (hg : w.grownBy w' row) (hr : ∀ k, row = some k → k < a.heap.size → F k) : Kept F a w' :=
  h.trans (F' := fun k => row = some k) ⟨hg.os, hg.tape, hg.output, hg.size, fun k hk hn => hg.block k hk (fun e => hn e.symm)⟩ (fun i hi e => hr i e hi)
theorem Kept.ofBelow {F : Nat → Prop} {w w' : World} (h : Below w.heap.size w w') : Kept F w w' := ⟨h.os, h.tape, h.output, h.size, fun k hk _ => h.block k hk⟩
theorem Kept.below {F : Nat → Prop} {w w' : World} {B : Nat} (h : Kept F w w') (hB : B ≤ w.heap.size) (hF : ∀ k, F k → B ≤ k) : Below B w w' :=
  ⟨h.os, h.tape, h.output, h.size, fun k hk => h.block k (by omega) (fun e => by have := hF k e; omega)⟩
theorem Kept.cell {F : Nat → Prop} {w w' : World} (h : Kept F w w') {a : Addr} {v : Value} (hc : w.cell? a = some v) (hn : ¬ F a.block) : w'.cell? a = some v :=
  (World.cell?_of_block (h.block a.block (World.block_lt_of_cell? w a hc) hn)).trans hc
theorem Kept.row {F : Nat → Prop} {w w' : World} {base e size n : Nat} {v : Value} {xs : List Value} (h : Kept F w w') (hr : w.ownsRow base e size v n xs) (hn : ∀ k, v.ownBlock = some k → ¬ F k) : w'.ownsRow base e size v n xs := by
  refine ⟨hr.1, ?_⟩
  rcases hr.2 with h0 | ⟨g, cap, cur, rfl, hb, hgg, rest⟩
  · exact .inl h0
  · refine .inr ⟨g, cap, cur, rfl, hb, ?_, rest⟩
    rw [h.block g (Array.getElem?_eq_some_iff.1 hgg).1 (hn g rfl)]
    exact hgg
theorem Kept.toBelow {w w' : World} (h : Kept (fun _ => False) w w') : Below w.heap.size w w' := ⟨h.os, h.tape, h.output, h.size, fun k hk => h.block k hk (fun e => e)⟩
/- A piece: number, place, number of pieces, data. -/
structure Pc where
  q : Int
  p : Int
  n : Int
  d : ByteArray
def pc0 : Pc := ⟨0, 0, 0, ⟨#[]⟩⟩
def pv (x : Pc) : Value := .agg #[.int .i64 x.q, .int .i64 x.p, .int .i64 x.n, .string x.d]
def cellsP (L : List Pc) : List Value := L.flatMap fun x => [.int .i64 x.q, .int .i64 x.p, .int .i64 x.n, .string x.d]
theorem cellsP_cons (x : Pc) (L : List Pc) : cellsP (x :: L) = .int .i64 x.q :: .int .i64 x.p :: .int .i64 x.n :: .string x.d :: cellsP L := rfl
theorem cellsP_append (L M : List Pc) : cellsP (L ++ M) = cellsP L ++ cellsP M := by simp [cellsP]
theorem cellsP_length (L : List Pc) : (cellsP L).length = L.length * 4 := by
  induction L with
  | nil => rfl
  | cons p L ih => rw [cellsP_cons]; simp [ih]; omega
theorem cellsP_get (L : List Pc) : ∀ (i : Nat), i < L.length → (cellsP L)[i * 4]? = some (.int .i64 (L.getD i pc0).q) ∧ (cellsP L)[i * 4 + 1]? = some (.int .i64 (L.getD i pc0).p) ∧ (cellsP L)[i * 4 + 2]? = some (.int .i64 (L.getD i pc0).n) ∧ (cellsP L)[i * 4 + 3]? = some (.string (L.getD i pc0).d) := by
  induction L with
  | nil => intro i hi; cases hi
  | cons p L ih =>
    intro i hi
    cases i with
    | zero => simp [cellsP_cons]
    | succ i =>
      have := ih i (by simpa using hi)
      rw [cellsP_cons, show (i + 1) * 4 = i * 4 + 1 + 1 + 1 + 1 by omega]
      simpa using this
theorem cellsP_one (L : List Pc) : ∀ u ∈ cellsP L, u.oneCell' = true := by
  intro u hu
  simp [cellsP] at hu
  obtain ⟨p, _, rfl | rfl | rfl | rfl⟩ := hu <;> simp [Value.oneCell']
def cellsS (l : List ByteArray) : List Value := l.map fun s => .string s
@[simp] theorem cellsS_length (l : List ByteArray) : (cellsS l).length = l.length := by simp [cellsS]
theorem cellsS_one (l : List ByteArray) : ∀ u ∈ cellsS l, u.oneCell' = true := by
  intro u hu
  simp [cellsS] at hu
  obtain ⟨s, _, rfl⟩ := hu
  simp [Value.oneCell']
theorem cellsS_append (l m : List ByteArray) : cellsS (l ++ m) = cellsS l ++ cellsS m := by simp [cellsS]
theorem cellsS_get (l : List ByteArray) (i : Nat) (h : i < l.length) : (cellsS l)[i]? = some (.string (l.getD i ⟨#[]⟩)) := by
  simp [cellsS, List.getD_eq_getElem?_getD, List.getElem?_eq_getElem h]
/- Texts, pieces that lie in a world from that place on. -/
def RdS (w : World) (a : Option Addr) (l : List ByteArray) : Prop :=
  ∀ i, i < l.length → ∃ b o, a = some ⟨b, o, none⟩ ∧ w.cell? ⟨b, o + i, none⟩ = some (.string (l.getD i ⟨#[]⟩))
structure PAt (w : World) (b o : Nat) (x : Pc) : Prop where
  c0 : w.cell? ⟨b, o, none⟩ = some (.int .i64 x.q)
  c1 : w.cell? ⟨b, o + 1, none⟩ = some (.int .i64 x.p)
  c2 : w.cell? ⟨b, o + 2, none⟩ = some (.int .i64 x.n)
  c3 : w.cell? ⟨b, o + 3, none⟩ = some (.string x.d)
theorem PAt.later {w w' : World} {b o : Nat} {x : Pc} (h : PAt w b o x) (hb : Below w.heap.size w w') : PAt w' b o x := ⟨cell_later hb h.c0, cell_later hb h.c1, cell_later hb h.c2, cell_later hb h.c3⟩
theorem PAt.kept {F : Nat → Prop} {w w' : World} {b o : Nat} {x : Pc} (h : PAt w b o x) (hk : Kept F w w') (hF : ¬ F b) : PAt w' b o x := ⟨hk.cell h.c0 hF, hk.cell h.c1 hF, hk.cell h.c2 hF, hk.cell h.c3 hF⟩
def RdP (w : World) (a : Option Addr) (l : List Pc) : Prop :=
  ∀ i, i < l.length → ∃ b o, a = some ⟨b, o, none⟩ ∧ PAt w b (o + i * 4) (l.getD i pc0)
theorem RdS.later {w w' : World} {a : Option Addr} {l : List ByteArray} (h : RdS w a l) (hb : Below w.heap.size w w') : RdS w' a l := fun i hi => by
  obtain ⟨b, o, e, c0⟩ := h i hi
  exact ⟨b, o, e, cell_later hb c0⟩
theorem RdP.later {w w' : World} {a : Option Addr} {l : List Pc} (h : RdP w a l) (hb : Below w.heap.size w w') : RdP w' a l := fun i hi => by
  obtain ⟨b, o, e, c0⟩ := h i hi
  exact ⟨b, o, e, c0.later hb⟩
theorem RdS.kept {F : Nat → Prop} {w w' : World} {a : Option Addr} {l : List ByteArray} (h : RdS w a l) (hk : Kept F w w') (hF : ∀ b o, a = some ⟨b, o, none⟩ → ¬ F b) : RdS w' a l := fun i hi => by
  obtain ⟨b, o, e, c0⟩ := h i hi
  exact ⟨b, o, e, hk.cell c0 (hF b o e)⟩
theorem RdP.kept {F : Nat → Prop} {w w' : World} {a : Option Addr} {l : List Pc} (h : RdP w a l) (hk : Kept F w w') (hF : ∀ b o, a = some ⟨b, o, none⟩ → ¬ F b) : RdP w' a l := fun i hi => by
  obtain ⟨b, o, e, c0⟩ := h i hi
  exact ⟨b, o, e, c0.kept hk (hF b o e)⟩
theorem RdS.nil (w : World) (a : Option Addr) : RdS w a [] := fun i hi => by cases hi
theorem RdP.nil (w : World) (a : Option Addr) : RdP w a [] := fun i hi => by cases hi
theorem RdS.spot {w : World} {a : Option Addr} {l : List ByteArray} (h : RdS w a l) (h0 : l ≠ []) : ∃ b o, a = some ⟨b, o, none⟩ ∧ ∀ i, i < l.length → w.cell? ⟨b, o + i, none⟩ = some (.string (l.getD i ⟨#[]⟩)) := by
  have hp : 0 < l.length := List.length_pos_iff.2 h0
  obtain ⟨b, o, e, _⟩ := h 0 hp
  refine ⟨b, o, e, fun i hi => ?_⟩
  obtain ⟨b', o', e', c0⟩ := h i hi
  rw [e] at e'
  simp at e'
  obtain ⟨rfl, rfl⟩ := e'
  exact c0
theorem RdP.spot {w : World} {a : Option Addr} {l : List Pc} (h : RdP w a l) (h0 : l ≠ []) : ∃ b o, a = some ⟨b, o, none⟩ ∧ ∀ i, i < l.length → PAt w b (o + i * 4) (l.getD i pc0) := by
  have hp : 0 < l.length := List.length_pos_iff.2 h0
  obtain ⟨b, o, e, _⟩ := h 0 hp
  refine ⟨b, o, e, fun i hi => ?_⟩
  obtain ⟨b', o', e', c0⟩ := h i hi
  rw [e] at e'
  simp at e'
  obtain ⟨rfl, rfl⟩ := e'
  exact c0
theorem add_plain (b o j : Nat) : (⟨b, o, none⟩ : Addr).add j = ⟨b, o + j, none⟩ := by unfold Addr.add; split <;> simp_all
theorem RdP.news {w : World} {b o : Nat} {ks : List Pc} (h : RdP w (some ⟨b, o, none⟩) ks) : ∀ j u, (cellsP ks)[j]? = some u → w.cell? ((⟨b, o, none⟩ : Addr).add j) = some u := fun j u hu => by
  have hj : j < ks.length * 4 := by
    rcases Nat.lt_or_ge j (cellsP ks).length with h' | h'
    · rwa [cellsP_length] at h'
    · rw [List.getElem?_eq_none h'] at hu; cases hu
  obtain ⟨b', o', e, c0, c1, c2, c3⟩ := h (j / 4) (by omega)
  obtain ⟨eb, eo⟩ : b = b' ∧ o = o' := by simpa using e
  rw [← eb, ← eo] at c0 c1 c2 c3
  obtain ⟨g0, g1, g2, g3⟩ := cellsP_get ks (j / 4) (by omega)
  rw [add_plain]
  have hm : j % 4 = 0 ∨ j % 4 = 1 ∨ j % 4 = 2 ∨ j % 4 = 3 := by omega
  rcases hm with hm | hm | hm | hm
  · have e4 : j / 4 * 4 = j := by omega
    rw [e4] at g0 c0
    rw [hu] at g0
    rw [c0]; exact g0.symm
  · have e4 : j / 4 * 4 + 1 = j := by omega
    rw [Nat.add_assoc, e4] at c1
    rw [e4, hu] at g1
    rw [c1]; exact g1.symm
  · have e4 : j / 4 * 4 + 2 = j := by omega
    rw [Nat.add_assoc, e4] at c2
    rw [e4, hu] at g2
    rw [c2]; exact g2.symm
  · have e4 : j / 4 * 4 + 3 = j := by omega
    rw [Nat.add_assoc, e4] at c3
    rw [e4, hu] at g3
    rw [c3]; exact g3.symm
/- Rows that a call has made. -/
def RwS (w : World) (N : Nat) (v : Value) (l : List ByteArray) : Prop := w.ownsRow N 9 1 v l.length (cellsS l)
def RwP (w : World) (N : Nat) (v : Value) (l : List Pc) : Prop := w.ownsRow N 93 4 v l.length (cellsP l)
theorem row_spell {w : World} {N e z n : Nat} {v : Value} {xs : List Value} (h : w.ownsRow N e z v n xs) : ∃ a cap, v = .slice a n cap := by
  rcases h.2 with ⟨h0, h1⟩ | ⟨r, cap, cur, hv, _⟩
  · exact ⟨none, 0, by rw [h0, h1]⟩
  · exact ⟨_, cap, hv⟩
theorem RwS.rd {w : World} {N : Nat} {a : Option Addr} {n cap : Nat} {l : List ByteArray} (h : RwS w N (.slice a n cap) l) : RdS w a l := fun i hi => by
  rcases h.2 with ⟨h0, h1⟩ | ⟨g, cap', cur, hv, _, hb, _, _, _, h4⟩
  · omega
  cases hv
  refine ⟨g, 0, rfl, ?_⟩
  have q : w.cell? ⟨g, 0 + i, none⟩ = (cellsS l)[i]? := by
    rw [← h4, List.getElem?_take_of_lt (by omega)]
    simp [World.cell?, hb]
  rw [q]; exact cellsS_get l i hi
theorem RwP.rd {w : World} {N : Nat} {a : Option Addr} {n cap : Nat} {l : List Pc} (h : RwP w N (.slice a n cap) l) : RdP w a l := fun i hi => by
  rcases h.2 with ⟨h0, h1⟩ | ⟨g, cap', cur, hv, _, hb, _, _, _, h4⟩
  · omega
  cases hv
  obtain ⟨e0, e1, e2, e3⟩ := cellsP_get l i hi
  have q : ∀ j, j < l.length * 4 → w.cell? ⟨g, 0 + j, none⟩ = (cellsP l)[j]? := fun j hj => by
    rw [← h4, List.getElem?_take_of_lt hj]
    simp [World.cell?, hb]
  refine ⟨g, 0, rfl, ?_, ?_, ?_, ?_⟩
  · rw [q _ (by omega)]; exact e0
  · have := q (i * 4 + 1) (by omega); rw [← Nat.add_assoc] at this; rw [this]; exact e1
  · have := q (i * 4 + 2) (by omega); rw [← Nat.add_assoc] at this; rw [this]; exact e2
  · have := q (i * 4 + 3) (by omega); rw [← Nat.add_assoc] at this; rw [this]; exact e3
theorem row_far {w : World} {N e z n : Nat} {a : Option Addr} {len cap : Nat} {xs : List Value} (h : w.ownsRow N e z (.slice a len cap) n xs) : ∀ b o, a = some ⟨b, o, none⟩ → N ≤ b ∧ b < w.heap.size := fun b o e => by
  subst e
  exact h.lt b rfl
theorem row_later {B e k n : Nat} {v : Value} {xs : List Value} {w w' : World} (h : w.ownsRow B e k v n xs) (hb : Below w.heap.size w w') : w'.ownsRow B e k v n xs := (Kept.ofBelow (F := fun _ => False) hb).row h (fun _ _ h => h)
theorem infoS : (Try.prog.info? 9).map (fun i => (i.zero, i.size, i.bytes)) = some (some (.string ⟨#[]⟩), 1, 16) := by kernel_rfl
theorem infoP : (Try.prog.info? 93).map (fun i => (i.zero, i.size, i.bytes)) = some (some (.agg #[.int .i64 0, .int .i64 0, .int .i64 0, .string ⟨#[]⟩]), 4, 40) := by kernel_rfl
theorem cell_four_at (w : World) (x y z u : Value) (t : TypeId) (n : Nat) (hn : n = w.heap.size) : ∀ j v, [x, y, z, u][j]? = some v → (w.alloc (.cells #[x, y, z, u] t)).cell? ((⟨n, 0, none⟩ : Addr).add j) = some v := by
  subst hn
  intro j v hj
  match j, hj with
  | 0, hj => simp at hj; subst hj; simp [Addr.add, go_sem]
  | 1, hj => simp at hj; subst hj; simp [Addr.add, go_sem]
  | 2, hj => simp at hj; subst hj; simp [Addr.add, go_sem]
  | 3, hj => simp at hj; subst hj; simp [Addr.add, go_sem]
theorem cell_one_at (w : World) (x : Value) (t : TypeId) (n : Nat) (hn : n = w.heap.size) : ∀ j u, [x][j]? = some u → (w.alloc (.cells #[x] t)).cell? ((⟨n, 0, none⟩ : Addr).add j) = some u := by
  subst hn
  intro j u hj
  match j, hj with
  | 0, hj => simp at hj; subst hj; simp [Addr.add, go_sem]
theorem blk_set {w : World} {g i : Nat} {cs : Array Value} {t : TypeId} (h : w.heap[g]? = some (.cells cs t)) (v : Value) : (w.setCell ⟨g, i, none⟩ v).heap[g]? = some (.cells (cs.setIfInBounds i v) t) := heap_setCell_same w g i cs t v h
theorem row_empty (w1 : World) (t z : Nat) : (w1.alloc (.cells #[] t)).ownsRow w1.heap.size t z (.slice (some ⟨w1.heap.size, 0, none⟩) 0 0) 0 [] :=
  ⟨by simp, Or.inr ⟨w1.heap.size, 0, #[], rfl, Nat.le_refl _, heap_alloc_new w1 _, Nat.le_refl _, Nat.zero_le _, by simp, by simp⟩⟩
end Go.Proofs.Ytohgflimdoebiaa
