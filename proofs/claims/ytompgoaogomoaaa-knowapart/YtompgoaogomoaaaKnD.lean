/- The document's Know in memory: a block, three lists of its own. -/
import Derived.Test.YtompgoaogomoaaaKnC
import Derived.Test.YtompgoaogomoaaaJnO
namespace Go.Proofs.Ytompgoaogomoaaa.Kn
open Go.RowKit Go.Maps
open Rt (Gd gd gd_yes gd_no)
set_option linter.unusedVariables false
set_option linter.unusedSimpArgs false

/- What a world has kept but for some blocks. -/
structure Kept (F : Nat → Prop) (w w' : World) : Prop where
  os : w'.os = w.os
  tape : w'.tape = w.tape
  output : w'.output = w.output
  size : w.heap.size ≤ w'.heap.size
  block : ∀ k, k < w.heap.size → ¬ F k → w'.heap[k]? = w.heap[k]?
section
variable {F F' : Nat → Prop} {a b c w w' : World}
theorem Kept.refl (F : Nat → Prop) (w : World) : Kept F w w := ⟨rfl, rfl, rfl, Nat.le_refl _, fun _ _ _ => rfl⟩
theorem Kept.trans (h : Kept F a b) (k : Kept F' b c) (hF : ∀ i, i < a.heap.size → F' i → F i) : Kept F a c :=
  ⟨k.os.trans h.os, k.tape.trans h.tape, k.output.trans h.output, Nat.le_trans h.size k.size, fun i hi hn => (k.block i (Nat.lt_of_lt_of_le hi h.size) (fun h' => hn (hF i hi h'))).trans (h.block i hi hn)⟩
theorem Kept.mono (h : Kept F a b) (hF : ∀ i, i < a.heap.size → F i → F' i) : Kept F' a b := ⟨h.os, h.tape, h.output, h.size, fun i hi hn => h.block i hi (fun h' => hn (hF i hi h'))⟩
theorem Kept.alloc (h : Kept F a w) (o : Obj) : Kept F a (w.alloc o) := h.trans (F' := F) ⟨rfl, rfl, rfl, by simp, fun k hk _ => Below.heap_alloc _ _ _ hk⟩ (fun _ _ h => h)
theorem Kept.setCell (h : Kept F a w) {p : Addr} (hp : p.block < a.heap.size → F p.block) (u : Value) : Kept F a (w.setCell p u) :=
  h.trans (F' := fun k => k = p.block) ⟨rfl, rfl, rfl, by simp [World.setCell], fun k hk hn => Below.heap_setCell _ _ _ _ hn⟩ (fun i hi e => by subst e; exact hp hi)
theorem Kept.grown {row : Option Nat} (h : Kept F a w) (hg : w.grownBy w' row) (hr : ∀ k, row = some k → k < a.heap.size → F k) : Kept F a w' :=
  h.trans (F' := fun k => row = some k) ⟨hg.os, hg.tape, hg.output, hg.size, fun k hk hn => hg.block k hk (fun e => hn e.symm)⟩ (fun i hi e => hr i e hi)
theorem Kept.ofBelow (h : Below w.heap.size w w') : Kept F w w' := ⟨h.os, h.tape, h.output, h.size, fun k hk _ => h.block k hk⟩
theorem Kept.below {B : Nat} (h : Kept F w w') (hB : B ≤ w.heap.size) (hF : ∀ k, F k → B ≤ k) : Below B w w' :=
  ⟨h.os, h.tape, h.output, h.size, fun k hk => h.block k (by omega) (fun e => by have := hF k e; omega)⟩
theorem Kept.cell (h : Kept F w w') {a : Addr} {v : Value} (hc : w.cell? a = some v) (hn : ¬ F a.block) : w'.cell? a = some v :=
  (World.cell?_of_block (h.block a.block (World.block_lt_of_cell? w a hc) hn)).trans hc
theorem Kept.row {base e size n : Nat} {v : Value} {xs : List Value} (h : Kept F w w') (hr : w.ownsRow base e size v n xs) (hn : ∀ k, v.ownBlock = some k → ¬ F k) : w'.ownsRow base e size v n xs := by
  refine ⟨hr.1, ?_⟩
  rcases hr.2 with h0 | ⟨g, cap, cur, rfl, hb, hgg, rest⟩
  · exact .inl h0
  · refine .inr ⟨g, cap, cur, rfl, hb, ?_, rest⟩
    rw [h.block g (Array.getElem?_eq_some_iff.1 hgg).1 (hn g rfl)]
    exact hgg
end
/- Lists as cells. -/
abbrev Sd := Int × ((Int × Int) × ByteArray)
def kC (k : K2) : List Value := [.int .i64 k.1, .int .i64 k.2]
def bC (b : B2) : List Value := [.int .i64 b.1.1, .int .i64 b.1.2, .int .i64 b.2.1, .int .i64 b.2.2]
def sC (d : Sd) : List Value := [.int .i64 d.1, .int .i64 d.2.1.1, .int .i64 d.2.1.2, .string d.2.2]
theorem fm_get {α : Type} {f : α → List Value} {m : Nat} (hf : ∀ a, (f a).length = m) (z : α) : ∀ {l : List α} {i j : Nat}, i < l.length → j < m → (l.flatMap f)[i * m + j]? = (f (l.getD i z))[j]?
  | [], _, _, h, _ => absurd h (by simp)
  | a :: l, 0, j, _, hj => by
    rw [List.flatMap_cons, List.getElem?_append_left (by rw [hf]; omega)]
    simp
  | a :: l, i + 1, j, h, hj => by
    have e : (i + 1) * m + j = m + (i * m + j) := by rw [Nat.add_mul]; omega
    rw [List.flatMap_cons, List.getElem?_append_right (by rw [hf]; omega), hf, e, Nat.add_sub_cancel_left, fm_get hf z (by simpa using h) hj]
    simp
structure Kst where
  T : List K2
  B : List B2
  X : List Sd
structure KnAt (w : World) (N p : Nat) (s : Kst) (vt vb vx : Value) : Prop where
  blk : w.heap[p]? = some (.cells #[vt, vb, vx] 31 (0, 0))
  told : w.ownsRow N 33 2 vt s.T.length (s.T.flatMap kC)
  box : w.ownsRow N 35 4 vb s.B.length (s.B.flatMap bC)
  txt : w.ownsRow N 37 4 vx s.X.length (s.X.flatMap sC)
  np : N ≤ p
  gt : ∀ k ∈ s.T, Gd k.1 k.2
  gb : ∀ b ∈ s.B, Gd b.1.1 b.1.2 ∧ Gd b.2.1 b.2.2
def Fk (p : Nat) (vt vb vx : Value) (k : Nat) : Prop := k = p ∨ vt.ownBlock = some k ∨ vb.ownBlock = some k ∨ vx.ownBlock = some k
theorem own_type {w : World} {N e z n : Nat} {v : Value} {xs : List Value} (h : w.ownsRow N e z v n xs) {k : Nat} (hk : v.ownBlock = some k) : N ≤ k ∧ k < w.heap.size ∧ ∃ cur, w.heap[k]? = some (.cells cur e (0, 0)) := by
  have hlt := h.lt k hk
  rcases h.2 with ⟨h0, _⟩ | ⟨g, cap, cur, rfl, hb, hgg, rest⟩
  · subst h0; cases hk
  · cases hk; exact ⟨hlt.1, hlt.2, cur, hgg⟩
section
variable {w w' : World} {N p : Nat} {s : Kst} {vt vb vx : Value} {F : Nat → Prop}
theorem KnAt.kept (h : KnAt w N p s vt vb vx) (hk : Kept F w w') (hF : ∀ k, Fk p vt vb vx k → ¬ F k) : KnAt w' N p s vt vb vx :=
  ⟨(hk.block p (Array.getElem?_eq_some_iff.1 h.blk).1 (hF p (.inl rfl))).trans h.blk, hk.row h.told fun k e => hF k (.inr (.inl e)), hk.row h.box fun k e => hF k (.inr (.inr (.inl e))), hk.row h.txt fun k e => hF k (.inr (.inr (.inr e))), h.np, h.gt, h.gb⟩
theorem KnAt.later (h : KnAt w N p s vt vb vx) (hb : Below w.heap.size w w') : KnAt w' N p s vt vb vx := h.kept (F := fun _ => False) (Kept.ofBelow hb) fun _ _ e => e
theorem KnAt.c0 (h : KnAt w N p s vt vb vx) : w.cell? ⟨p, 0, none⟩ = some vt := cell_of_row _ _ 0 _ _ _ h.blk
theorem KnAt.c1 (h : KnAt w N p s vt vb vx) : w.cell? ⟨p, 1, none⟩ = some vb := cell_of_row _ _ 1 _ _ _ h.blk
theorem KnAt.c2 (h : KnAt w N p s vt vb vx) : w.cell? ⟨p, 2, none⟩ = some vx := cell_of_row _ _ 2 _ _ _ h.blk
theorem KnAt.lt (h : KnAt w N p s vt vb vx) : p < w.heap.size := (Array.getElem?_eq_some_iff.1 h.blk).1
/- No list lies in the block, nor in another list's. -/
theorem KnAt.apart (h : KnAt w N p s vt vb vx) : vt.ownBlock ≠ some p ∧ vb.ownBlock ≠ some p ∧ vx.ownBlock ≠ some p ∧ (∀ k, vt.ownBlock = some k → vb.ownBlock ≠ some k ∧ vx.ownBlock ≠ some k) ∧ ∀ k, vb.ownBlock = some k → vx.ownBlock ≠ some k := by
  have tp : ∀ {e z n : Nat} {v : Value} {xs : List Value}, w.ownsRow N e z v n xs → e ≠ 31 → v.ownBlock ≠ some p := by
    intro e z n v xs hr he hk
    obtain ⟨_, _, cur, hc⟩ := own_type hr hk
    have := h.blk
    rw [hc] at this
    simp at this
    exact he this.2
  have tt : ∀ {e e' z z' n n' : Nat} {v v' : Value} {xs xs' : List Value}, w.ownsRow N e z v n xs → w.ownsRow N e' z' v' n' xs' → e ≠ e' → ∀ k, v.ownBlock = some k → v'.ownBlock ≠ some k := by
    intro e e' z z' n n' v v' xs xs' hr hr' he k hk hk'
    obtain ⟨_, _, cur, hc⟩ := own_type hr hk
    obtain ⟨_, _, cur', hc'⟩ := own_type hr' hk'
    rw [hc] at hc'
    simp at hc'
    exact he hc'.2
  exact ⟨tp h.told (by decide), tp h.box (by decide), tp h.txt (by decide), fun k hk => ⟨tt h.told h.box (by decide) k hk, tt h.told h.txt (by decide) k hk⟩, fun k hk => tt h.box h.txt (by decide) k hk⟩
theorem own_spell {e z n : Nat} {v : Value} {xs : List Value} (h : w.ownsRow N e z v n xs) : ∃ a c, v = .slice a n c ∧ (n = 0 ∨ ∃ g, a = some ⟨g, 0, none⟩) := by
  rcases h.2 with ⟨h0, h1⟩ | ⟨g, cap, cur, rfl, _⟩
  · subst h0; subst h1; exact ⟨none, 0, rfl, .inl rfl⟩
  · exact ⟨_, _, rfl, .inr ⟨g, rfl⟩⟩
theorem rdK_of {a : Option Addr} {c : Nat} {l : List K2} (h : w.ownsRow N 33 2 (.slice a l.length c) l.length (l.flatMap kC)) : RdK w a l := fun i hi => by
  rcases h.2 with ⟨h0, h1⟩ | ⟨g, cap, cur, h5, _⟩
  · omega
  · simp at h5
    obtain ⟨rfl, rfl⟩ := h5
    refine ⟨g, 0, rfl, ?_, ?_⟩
    · rw [Nat.zero_add, h.cellAt (i * 2) (by omega), show i * 2 = i * 2 + 0 from rfl, fm_get (f := kC) (m := 2) (fun _ => rfl) (0, 0) hi (by omega)]; rfl
    · rw [Nat.zero_add, h.cellAt (i * 2 + 1) (by omega), fm_get (f := kC) (m := 2) (fun _ => rfl) (0, 0) hi (by omega)]; rfl
theorem rdB_of {a : Option Addr} {c : Nat} {l : List B2} (h : w.ownsRow N 35 4 (.slice a l.length c) l.length (l.flatMap bC)) : RdB w a l := fun i hi => by
  rcases h.2 with ⟨h0, h1⟩ | ⟨g, cap, cur, h5, _⟩
  · omega
  · simp at h5
    obtain ⟨rfl, rfl⟩ := h5
    refine ⟨g, 0, rfl, ?_, ?_, ?_, ?_⟩
    · rw [Nat.zero_add, h.cellAt (i * 4) (by omega), show i * 4 = i * 4 + 0 from rfl, fm_get (f := bC) (m := 4) (fun _ => rfl) ((0, 0), (0, 0)) hi (by omega)]; rfl
    · rw [Nat.zero_add, h.cellAt (i * 4 + 1) (by omega), fm_get (f := bC) (m := 4) (fun _ => rfl) ((0, 0), (0, 0)) hi (by omega)]; rfl
    · rw [Nat.zero_add, h.cellAt (i * 4 + 2) (by omega), fm_get (f := bC) (m := 4) (fun _ => rfl) ((0, 0), (0, 0)) hi (by omega)]; rfl
    · rw [Nat.zero_add, h.cellAt (i * 4 + 3) (by omega), fm_get (f := bC) (m := 4) (fun _ => rfl) ((0, 0), (0, 0)) hi (by omega)]; rfl
end
theorem news_of {w : World} {g : Nat} {cs : Array Value} {t : TypeId} (h : w.heap[g]? = some (.cells cs t (0, 0))) : ∀ j u, cs.toList[j]? = some u → w.cell? ((⟨g, 0, none⟩ : Addr).add j) = some u := by
  intro j u hu
  have e : (⟨g, 0, none⟩ : Addr).add j = ⟨g, j, none⟩ := by unfold Addr.add; split <;> simp_all
  rw [e, cell_of_row _ _ j _ _ _ h, ← Array.getElem?_toList]
  exact hu
end Go.Proofs.Ytompgoaogomoaaa.Kn
