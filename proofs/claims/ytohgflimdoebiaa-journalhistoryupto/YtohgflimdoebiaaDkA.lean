/- What a world has kept but for some blocks; texts and writes that are read; maps of texts. -/
import Derived.Test.YtohgflimdoebiaaChecked
import Derived.Test.YtohgflimdoebiaaDkMath
import Derived.LoopTactic
import Derived.Maps.AppendAt
import Derived.Maps.OwnOps
import Derived.Maps.RangeWalk
import Derived.Maps.StringElems
import Derived.Laws.OwnMore
import Derived.Deep.AppendLies
import Derived.Deep.RegionHeld3
import Derived.Deep.RegionWith
import Derived.Deep.DrawnRows
namespace Go.Proofs.Ytohgflimdoebiaa.Dk
open Go.RowKit Go.Maps
set_option linter.unusedVariables false
set_option linter.unusedSimpArgs false

theorem ret_int {k : IntKind} {a b : Int} (h : a = b) : Ending.returned (.int k a) = .returned (.int k b) := by rw [h]
theorem ret_bool {a b : Bool} (h : a = b) : Ending.returned (.bool a) = .returned (.bool b) := by rw [h]
theorem below1 (w : World) (o : Obj) : Below w.heap.size w (w.alloc o) := (Below.refl _ w).alloc (Nat.le_refl _) o
theorem Below.more {w w' : World} (h : Below w.heap.size w w') (o : Obj) : Below w.heap.size w (w'.alloc o) := h.alloc h.size o
theorem cell_later {n : Nat} {w w' : World} {a : Addr} {v : Value} (hb : Below n w w') (hn : w.heap.size ≤ n) (hc : w.cell? a = some v) : w'.cell? a = some v :=
  (World.cell?_of_block (hb.block a.block (Nat.lt_of_lt_of_le (World.block_lt_of_cell? w a hc) hn))).trans hc
structure Kept (F : Nat → Prop) (w w' : World) : Prop where
  os : w'.os = w.os
  tape : w'.tape = w.tape
  output : w'.output = w.output
  size : w.heap.size ≤ w'.heap.size
  block : ∀ k, k < w.heap.size → ¬ F k → w'.heap[k]? = w.heap[k]?
theorem Kept.refl (F : Nat → Prop) (w : World) : Kept F w w := ⟨rfl, rfl, rfl, Nat.le_refl _, fun _ _ _ => rfl⟩
theorem Kept.trans {F F' : Nat → Prop} {a b c : World} (h : Kept F a b) (k : Kept F' b c) (hF : ∀ i, i < a.heap.size → F' i → F i) : Kept F a c :=
  ⟨k.os.trans h.os, k.tape.trans h.tape, k.output.trans h.output, Nat.le_trans h.size k.size, fun i hi hn => (k.block i (Nat.lt_of_lt_of_le hi h.size) (fun h' => hn (hF i hi h'))).trans (h.block i hi hn)⟩
theorem Kept.mono {F F' : Nat → Prop} {a b : World} (h : Kept F a b) (hF : ∀ i, i < a.heap.size → F i → F' i) : Kept F' a b := ⟨h.os, h.tape, h.output, h.size, fun i hi hn => h.block i hi (fun h' => hn (hF i hi h'))⟩
theorem Kept.drew {F : Nat → Prop} {a w : World} (h : Kept F a w) : Kept F a w.drew := ⟨h.os, h.tape, h.output, h.size, h.block⟩
theorem Kept.alloc {F : Nat → Prop} {a w : World} (h : Kept F a w) (o : Obj) : Kept F a (w.alloc o) :=
  h.trans (F' := F) ⟨rfl, rfl, rfl, by simp, fun k hk _ => Below.heap_alloc _ _ _ hk⟩ (fun _ _ h => h)
theorem Kept.setCell {F : Nat → Prop} {a w : World} (h : Kept F a w) {p : Addr} (hp : p.block < a.heap.size → F p.block) (u : Value) : Kept F a (w.setCell p u) :=
  h.trans (F' := fun k => k = p.block) ⟨rfl, rfl, rfl, by simp [World.setCell], fun k hk hn => Below.heap_setCell _ _ _ _ hn⟩ (fun i hi e => by subst e; exact hp hi)
theorem Kept.grown {F : Nat → Prop} {a w w' : World} {row : Option Nat} (h : Kept F a w) (hg : w.grownBy w' row) (hr : ∀ k, row = some k → k < a.heap.size → F k) : Kept F a w' :=
  h.trans (F' := fun k => row = some k) ⟨hg.os, hg.tape, hg.output, hg.size, fun k hk hn => hg.block k hk (fun e => hn e.symm)⟩ (fun i hi e => hr i e hi)
theorem Kept.ofBelow {F : Nat → Prop} {w w' : World} (h : Below w.heap.size w w') : Kept F w w' := ⟨h.os, h.tape, h.output, h.size, fun k hk _ => h.block k hk⟩
theorem Kept.below {F : Nat → Prop} {w w' : World} {B : Nat} (h : Kept F w w') (hB : B ≤ w.heap.size) (hF : ∀ k, F k → B ≤ k) : Below B w w' :=
  ⟨h.os, h.tape, h.output, h.size, fun k hk => h.block k (by omega) (fun e => by have := hF k e; omega)⟩
theorem Kept.cell {F : Nat → Prop} {w w' : World} (h : Kept F w w') {a : Addr} {v : Value} (hc : w.cell? a = some v) (hn : ¬ F a.block) : w'.cell? a = some v :=
  (World.cell?_of_block (h.block a.block (World.block_lt_of_cell? w a hc) hn)).trans hc
theorem Kept.row {F : Nat → Prop} {w w' : World} {base e size n : Nat} {v : Value} {xs : List Value} (h : Kept F w w') (hr : w.ownsRow base e size v n xs) (hn : ∀ k, v.ownBlock = some k → ¬ F k) : w'.ownsRow base e size v n xs := by
  refine ⟨hr.1, ?_⟩
  rcases hr.2 with h0 | ⟨g, cap, cur, rfl, hb, hgg, rest⟩
  · exact .inl h0
  · refine .inr ⟨g, cap, cur, rfl, hb, ?_, rest⟩
    rw [h.block g (Array.getElem?_eq_some_iff.1 hgg).1 (hn g rfl)]
    exact hgg
theorem Kept.toBelow {w w' : World} (h : Kept (fun _ => False) w w') : Below w.heap.size w w' := ⟨h.os, h.tape, h.output, h.size, fun k hk => h.block k hk (fun e => e)⟩
theorem Kept.map {F : Nat → Prop} {w w' : World} {b n : Nat} {D : DataW Unit} {k : TypeId} {R : Value → Option (DataW Unit × List MemPlace)} (h : Kept F w w') (hm : w.ownsMap Try.prog k R b n D) (hb : ¬ F b) : w'.ownsMap Try.prog k R b n D := by
  have hlt := hm.lt
  obtain ⟨es, cl, hh, r⟩ := hm
  exact ⟨es, cl, (h.block b hlt hb).trans hh, r⟩
theorem intK : Keyed Try.prog 3 := int_keyed Try.underlying3
def Om (w : World) (b n : Nat) (D : DataW Unit) : Prop := w.ownsMap Try.prog 3 (plainElem Try.prog 9) b n D
def Mp (w : World) (b n : Nat) (f : Bl) : Prop := ∃ D, Om w b n D ∧ MapIs D f
theorem Mp.kept {F : Nat → Prop} {w w' : World} {b n : Nat} {f : Bl} (h : Mp w b n f) (hk : Kept F w w') (hb : ¬ F b) : Mp w' b n f := by
  obtain ⟨D, h1, h2⟩ := h
  exact ⟨D, hk.map h1 hb, h2⟩
theorem Mp.mono {w : World} {b n n' : Nat} {f : Bl} (h : Mp w b n f) (hn : n ≤ n') : Mp w b n' f := by
  obtain ⟨D, h1, h2⟩ := h
  exact ⟨D, World.ownsMap.mono h1 hn, h2⟩
theorem Mp.lt {w : World} {b n : Nat} {f : Bl} (h : Mp w b n f) : b < w.heap.size := by
  obtain ⟨D, h1, _⟩ := h
  exact World.ownsMap.lt h1
theorem Mp.isMap {w : World} {b n : Nat} {f : Bl} (h : Mp w b n f) : ∃ es cl, w.heap[b]? = some (.map es cl) := by
  obtain ⟨D, ⟨es, cl, h1, _⟩, _⟩ := h
  exact ⟨es, cl, h1⟩
theorem zeroS (w : World) : (zeroValue 9).run Try.prog w = .ok (.string ⟨#[]⟩) w := by kernel_rfl
theorem wf_of {b : Int} (h1 : -9223372036854775808 ≤ b) (h2 : b ≤ 9223372036854775807) : (Lit.int .i64 b).wf = true := WalkArith.wf_i64 (by omega)
theorem Mp.look {w : World} {b n : Nat} {f : Bl} (h : Mp w b n f) {x : Int} (hx : (Lit.int .i64 x).wf = true) : (Instr.lookup 75 (.map (some b)) (.int .i64 x) false).run Try.prog w = .ok (.string (f x)) w := by
  obtain ⟨D, h1, h2⟩ := h
  obtain ⟨v, ps, hrun, hR⟩ := World.ownsMap.lookup h1 intK Try.underlying75 (zeroS w) (plainElem_string (H := Unit) Try.underlying9 (s := ⟨#[]⟩) (Nat.zero_le _)) (keyOf_int_mk Try.underlying3 hx)
  obtain ⟨c, rfl, hc, _⟩ := plainElem_string_inv Try.underlying9 hR
  have e : D.atKey (.int .i64 x) (el ⟨#[]⟩) = el c := congrArg Prod.fst hc
  rw [h2.look x] at e
  rw [el_inj e]
  exact hrun
/- Texts that lie in a world from that place on. -/
def RdS (w : World) (a : Option Addr) (l : List ByteArray) : Prop :=
  ∀ i, i < l.length → ∃ b o, a = some ⟨b, o, none⟩ ∧ w.cell? ⟨b, o + i, none⟩ = some (.string (l.getD i ⟨#[]⟩))
def RdW (w : World) (a : Option Addr) (l : List (Int × ByteArray)) : Prop :=
  ∀ i, i < l.length → ∃ b o, a = some ⟨b, o, none⟩ ∧ w.cell? ⟨b, o + i * 2, none⟩ = some (.int .i64 (l.getD i (0, ⟨#[]⟩)).1) ∧ w.cell? ⟨b, o + i * 2 + 1, none⟩ = some (.string (l.getD i (0, ⟨#[]⟩)).2)
theorem RdS.later {w w' : World} {a : Option Addr} {l : List ByteArray} (h : RdS w a l) (hb : Below w.heap.size w w') : RdS w' a l := fun i hi => by
  obtain ⟨b, o, e, c0⟩ := h i hi
  exact ⟨b, o, e, cell_later hb (Nat.le_refl _) c0⟩
theorem RdW.later {w w' : World} {a : Option Addr} {l : List (Int × ByteArray)} (h : RdW w a l) (hb : Below w.heap.size w w') : RdW w' a l := fun i hi => by
  obtain ⟨b, o, e, c0, c1⟩ := h i hi
  exact ⟨b, o, e, cell_later hb (Nat.le_refl _) c0, cell_later hb (Nat.le_refl _) c1⟩
theorem RdS.kept {F : Nat → Prop} {w w' : World} {a : Option Addr} {l : List ByteArray} (h : RdS w a l) (hk : Kept F w w') (hF : ∀ b o, a = some ⟨b, o, none⟩ → ¬ F b) : RdS w' a l := fun i hi => by
  obtain ⟨b, o, e, c0⟩ := h i hi
  exact ⟨b, o, e, hk.cell c0 (hF b o e)⟩
theorem RdW.kept {F : Nat → Prop} {w w' : World} {a : Option Addr} {l : List (Int × ByteArray)} (h : RdW w a l) (hk : Kept F w w') (hF : ∀ b o, a = some ⟨b, o, none⟩ → ¬ F b) : RdW w' a l := fun i hi => by
  obtain ⟨b, o, e, c0, c1⟩ := h i hi
  exact ⟨b, o, e, hk.cell c0 (hF b o e), hk.cell c1 (hF b o e)⟩
theorem RdS.nil (w : World) (a : Option Addr) : RdS w a [] := fun i hi => by cases hi
theorem RdW.nil (w : World) (a : Option Addr) : RdW w a [] := fun i hi => by cases hi
theorem RdS.spot {w : World} {a : Option Addr} {l : List ByteArray} (h : RdS w a l) (h0 : l ≠ []) : ∃ b o, a = some ⟨b, o, none⟩ ∧ ∀ i, i < l.length → w.cell? ⟨b, o + i, none⟩ = some (.string (l.getD i ⟨#[]⟩)) := by
  have hp : 0 < l.length := List.length_pos_iff.2 h0
  obtain ⟨b, o, e, _⟩ := h 0 hp
  refine ⟨b, o, e, fun i hi => ?_⟩
  obtain ⟨b', o', e', c0⟩ := h i hi
  rw [e] at e'
  simp at e'
  obtain ⟨rfl, rfl⟩ := e'
  exact c0
theorem RdW.spot {w : World} {a : Option Addr} {l : List (Int × ByteArray)} (h : RdW w a l) (h0 : l ≠ []) : ∃ b o, a = some ⟨b, o, none⟩ ∧ ∀ i, i < l.length → w.cell? ⟨b, o + i * 2, none⟩ = some (.int .i64 (l.getD i (0, ⟨#[]⟩)).1) ∧ w.cell? ⟨b, o + i * 2 + 1, none⟩ = some (.string (l.getD i (0, ⟨#[]⟩)).2) := by
  have hp : 0 < l.length := List.length_pos_iff.2 h0
  obtain ⟨b, o, e, _⟩ := h 0 hp
  refine ⟨b, o, e, fun i hi => ?_⟩
  obtain ⟨b', o', e', c0, c1⟩ := h i hi
  rw [e] at e'
  simp at e'
  obtain ⟨rfl, rfl⟩ := e'
  exact ⟨c0, c1⟩
theorem RdW.take {w : World} {a : Option Addr} {l : List (Int × ByteArray)} (h : RdW w a l) (n : Nat) : RdW w a (l.take n) := fun i hi => by
  have hi' : i < n ∧ i < l.length := by rw [List.length_take] at hi; omega
  obtain ⟨b, o, e, c0, c1⟩ := h i hi'.2
  have q : (l.take n).getD i (0, ⟨#[]⟩) = l.getD i (0, ⟨#[]⟩) := by simp [hi'.1]
  rw [q]
  exact ⟨b, o, e, c0, c1⟩
theorem RdS.take {w : World} {a : Option Addr} {l : List ByteArray} (h : RdS w a l) (n : Nat) : RdS w a (l.take n) := fun i hi => by
  have hi' : i < n ∧ i < l.length := by rw [List.length_take] at hi; omega
  obtain ⟨b, o, e, c0⟩ := h i hi'.2
  have q : (l.take n).getD i ⟨#[]⟩ = l.getD i ⟨#[]⟩ := by simp [hi'.1]
  rw [q]
  exact ⟨b, o, e, c0⟩
theorem add_plain (b o j : Nat) : (⟨b, o, none⟩ : Addr).add j = ⟨b, o + j, none⟩ := by unfold Addr.add; split <;> simp_all
theorem RdW.news {w : World} {b o : Nat} {ks : List (Int × ByteArray)} (h : RdW w (some ⟨b, o, none⟩) ks) : ∀ j u, (cellsW ks)[j]? = some u → w.cell? ((⟨b, o, none⟩ : Addr).add j) = some u := fun j u hu => by
  have hj : j < ks.length * 2 := by
    rcases Nat.lt_or_ge j (cellsW ks).length with h' | h'
    · rwa [cellsW_length] at h'
    · rw [List.getElem?_eq_none h'] at hu; cases hu
  obtain ⟨b', o', e, c0, c1⟩ := h (j / 2) (by omega)
  obtain ⟨eb, eo⟩ : b = b' ∧ o = o' := by simpa using e
  rw [← eb, ← eo] at c0 c1
  have hg := cellsW_get ks (j / 2) (by omega)
  rw [add_plain]
  have hm : j % 2 = 0 ∨ j % 2 = 1 := by omega
  rcases hm with hm | hm
  · have e4 : j / 2 * 2 = j := by omega
    rw [e4] at hg c0
    rw [hu] at hg
    rw [c0]; exact hg.1.symm
  · have e4 : j / 2 * 2 + 1 = j := by omega
    rw [Nat.add_assoc, e4] at c1
    rw [e4, hu] at hg
    rw [c1]; exact hg.2.symm
theorem cellsS_get (l : List ByteArray) (i : Nat) (h : i < l.length) : (cellsS l)[i]? = some (.string (l.getD i ⟨#[]⟩)) := by
  simp [cellsS, List.getD_eq_getElem?_getD, List.getElem?_eq_getElem h]
theorem RdS.news {w : World} {b o : Nat} {ks : List ByteArray} (h : RdS w (some ⟨b, o, none⟩) ks) : ∀ j u, (cellsS ks)[j]? = some u → w.cell? ((⟨b, o, none⟩ : Addr).add j) = some u := fun j u hu => by
  have hj : j < ks.length := by
    rcases Nat.lt_or_ge j (cellsS ks).length with h' | h'
    · rwa [cellsS_length] at h'
    · rw [List.getElem?_eq_none h'] at hu; cases hu
  obtain ⟨b', o', e, c0⟩ := h j hj
  obtain ⟨eb, eo⟩ : b = b' ∧ o = o' := by simpa using e
  rw [← eb, ← eo] at c0
  rw [cellsS_get ks j hj] at hu
  rw [add_plain, c0]; exact hu
/- Rows that a call has made. -/
def RwS (w : World) (N : Nat) (v : Value) (l : List ByteArray) : Prop := w.ownsRow N 9 1 v l.length (cellsS l)
def RwW (w : World) (N : Nat) (v : Value) (l : List (Int × ByteArray)) : Prop := w.ownsRow N 84 2 v l.length (cellsW l)
theorem row_spell {w : World} {N e z n : Nat} {v : Value} {xs : List Value} (h : w.ownsRow N e z v n xs) : ∃ a cap, v = .slice a n cap := by
  rcases h.2 with ⟨h0, h1⟩ | ⟨r, cap, cur, hv, _⟩
  · exact ⟨none, 0, by rw [h0, h1]⟩
  · exact ⟨_, cap, hv⟩
theorem RwS.rd {w : World} {N : Nat} {a : Option Addr} {n cap : Nat} {l : List ByteArray} (h : RwS w N (.slice a n cap) l) : RdS w a l := fun i hi => by
  rcases h.2 with ⟨h0, h1⟩ | ⟨g, cap', cur, hv, _, hb, _, _, _, h4⟩
  · omega
  cases hv
  refine ⟨g, 0, rfl, ?_⟩
  have q : w.cell? ⟨g, 0 + i, none⟩ = (cellsS l)[i]? := by
    rw [← h4, List.getElem?_take_of_lt (by omega)]
    simp [World.cell?, hb]
  rw [q]; exact cellsS_get l i hi
theorem RwW.rd {w : World} {N : Nat} {a : Option Addr} {n cap : Nat} {l : List (Int × ByteArray)} (h : RwW w N (.slice a n cap) l) : RdW w a l := fun i hi => by
  rcases h.2 with ⟨h0, h1⟩ | ⟨g, cap', cur, hv, _, hb, _, _, _, h4⟩
  · omega
  cases hv
  have e0 := cellsW_get l i hi
  have q : ∀ j, j < l.length * 2 → w.cell? ⟨g, 0 + j, none⟩ = (cellsW l)[j]? := fun j hj => by
    rw [← h4, List.getElem?_take_of_lt hj]
    simp [World.cell?, hb]
  refine ⟨g, 0, rfl, ?_, ?_⟩
  · rw [q _ (by omega)]; exact e0.1
  · have := q (i * 2 + 1) (by omega); rw [← Nat.add_assoc] at this; rw [this]; exact e0.2
theorem row_far {w : World} {N e z n : Nat} {a : Option Addr} {len cap : Nat} {xs : List Value} (h : w.ownsRow N e z (.slice a len cap) n xs) : ∀ b o, a = some ⟨b, o, none⟩ → N ≤ b ∧ b < w.heap.size := fun b o e => by
  subst e
  exact h.lt b rfl
theorem row_later {B e k n : Nat} {v : Value} {xs : List Value} {w w' : World} (h : w.ownsRow B e k v n xs) (hb : Below w.heap.size w w') : w'.ownsRow B e k v n xs := (Kept.ofBelow (F := fun _ => False) hb).row h (fun _ _ h => h)
theorem infoW : (Try.prog.info? 84).map (fun i => (i.zero, i.size, i.bytes)) = some (some (.agg #[.int .i64 0, .string ⟨#[]⟩]), 2, 24) := by kernel_rfl
theorem infoS : (Try.prog.info? 9).map (fun i => (i.zero, i.size, i.bytes)) = some (some (.string ⟨#[]⟩), 1, 16) := by kernel_rfl
theorem cell_two_new (w : World) (x y : Value) (t : TypeId) : ∀ j u, [x, y][j]? = some u → (w.alloc (.cells #[x, y] t)).cell? ((⟨w.heap.size, 0, none⟩ : Addr).add j) = some u := by
  intro j u hj
  match j, hj with
  | 0, hj => simp at hj; subst hj; simp [Addr.add, go_sem]
  | 1, hj => simp at hj; subst hj; simp [Addr.add, go_sem]
theorem cell_two_at (w : World) (x y : Value) (t : TypeId) (n : Nat) (hn : n = w.heap.size) : ∀ j u, [x, y][j]? = some u → (w.alloc (.cells #[x, y] t)).cell? ((⟨n, 0, none⟩ : Addr).add j) = some u := by subst hn; exact cell_two_new w x y t
theorem cell_one_at (w : World) (x : Value) (t : TypeId) (n : Nat) (hn : n = w.heap.size) : ∀ j u, [x][j]? = some u → (w.alloc (.cells #[x] t)).cell? ((⟨n, 0, none⟩ : Addr).add j) = some u := by
  subst hn
  intro j u hj
  match j, hj with
  | 0, hj => simp at hj; subst hj; simp [Addr.add, go_sem]
theorem blk_set {w : World} {g i : Nat} {cs : Array Value} {t : TypeId} (h : w.heap[g]? = some (.cells cs t)) (v : Value) : (w.setCell ⟨g, i, none⟩ v).heap[g]? = some (.cells (cs.setIfInBounds i v) t) := heap_setCell_same w g i cs t v h
end Go.Proofs.Ytohgflimdoebiaa.Dk
