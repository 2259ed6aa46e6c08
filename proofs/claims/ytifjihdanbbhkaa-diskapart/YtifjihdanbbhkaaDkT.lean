/- A disk and the document's disk beside one another. -/
import Derived.Test.YtifjihdanbbhkaaDkL
import Derived.Test.YtifjihdanbbhkaaDrE
namespace Go.Proofs.Ytifjihdanbbhkaa
open Go.RowKit Go.Maps
set_option linter.unusedVariables false
set_option linter.unusedSimpArgs false

theorem belowK {a b c : World} {F : Nat → Prop} {N : Nat} (h : Below N a b) (k : Kept F b c) (hF : ∀ i, F i → N ≤ i) (hN : N ≤ b.heap.size) : Below N a c :=
  ⟨k.os.trans h.os, k.tape.trans h.tape, k.output.trans h.output, Nat.le_trans h.size k.size, fun i hi => (k.block i (Nat.lt_of_lt_of_le hi hN) (fun e => by have := hF i e; omega)).trans (h.block i hi)⟩
theorem belowN {a b c : World} {N : Nat} (h : Below N a b) (k : Below N b c) : Below N a c :=
  ⟨k.os.trans h.os, k.tape.trans h.tape, k.output.trans h.output, Nat.le_trans h.size k.size, fun i hi => (k.block i hi).trans (h.block i hi)⟩
theorem belowW {a b : World} {N M : Nat} (h : Below M a b) (hN : N ≤ M) : Below N a b := ⟨h.os, h.tape, h.output, h.size, fun i hi => h.block i (by omega)⟩
theorem row_weak {w : World} {N M e z n : Nat} {v : Value} {xs : List Value} (h : w.ownsRow M e z v n xs) (hN : N ≤ M) : w.ownsRow N e z v n xs :=
  ⟨h.1, h.2.imp id (fun ⟨g, cap, cur, hv, hbg, r⟩ => ⟨g, cap, cur, hv, Nat.le_trans hN hbg, r⟩)⟩
theorem Dk.weak {N M : Nat} {w : World} {p : Nat} {s : St} {b m : Nat} {x : Value} (h : Dk M w p s b m x) (hN : N ≤ M) : Dk N w p s b m x :=
  ⟨h.blk, h.mb, h.mm, row_weak h.row hN, h.ne, Nat.le_trans hN h.np, Nat.le_trans hN h.nb, Nat.le_trans hN h.nm, h.ok⟩
theorem Rk.weak {N M : Nat} {w : World} {q : Nat} {s : St} {f y x : Value} (h : Rk M w q s f y x) (hN : N ≤ M) : Rk N w q s f y x :=
  ⟨h.blk, row_weak h.fst hN, row_weak h.blo hN, row_weak h.log hN, h.ne, Nat.le_trans hN h.nq, h.ok⟩
structure Tw (N : Nat) (w : World) (p q : Nat) (s t : St) (b m : Nat) (x f y z : Value) : Prop where
  d : Dk N w p s b m x
  r : Rk N w q t f y z
  dj : ∀ k, Fd p b m x k → ¬ Fr q f y z k
section
variable {N : Nat} {w w' : World} {p q : Nat} {s t s' t' : St} {b m : Nat} {x f y z : Value}
theorem Tw.later (h : Tw N w p q s t b m x f y z) (hb : Below w.heap.size w w') : Tw N w' p q s t b m x f y z := ⟨h.d.later hb, h.r.later hb, h.dj⟩
theorem Tw.left (h : Tw N w p q s t b m x f y z) (hw : Wrote N w p s' b m x w') : ∃ x', Tw N w' p q s' t b m x' f y z ∧ Kept (Fd p b m x) w w' := by
  obtain ⟨x', hd, hk, hf⟩ := hw
  refine ⟨x', ⟨hd, h.r.kept hk (fun k hk hF => h.dj k hF hk), fun k hk hF => ?_⟩, hk⟩
  rcases hf k hk with e | e
  · exact h.dj k e hF
  · have := (h.r.inHeap k hF).1; omega
theorem Tw.right (h : Tw N w p q s t b m x f y z) (hw : RWrote N w q t' f y z w') : ∃ z', Tw N w' p q s t' b m x f y z' ∧ Kept (Fr q f y z) w w' := by
  obtain ⟨z', hr, hk, hf⟩ := hw
  refine ⟨z', ⟨h.d.kept hk (fun k hk hF => h.dj k hk hF), hr, fun k hk hF => ?_⟩, hk⟩
  rcases hf k hF with e | e
  · exact h.dj k hk e
  · have := (h.d.inHeap k hk).1; omega
end
def Two (N : Nat) (w : World) (p q : Nat) (s : St) : Prop := ∃ b m x f y z, Tw N w p q s s b m x f y z
def stp (s : St) (kind at' : Int) (t : ByteArray) : St := if kind = 1 then nx s at' t else if kind = 3 then ⟨s.img, s.log, max at' (-1)⟩ else if kind = 4 then ⟨s.img, s.log, 0⟩ else s
theorem Two.later {N : Nat} {w w' : World} {p q : Nat} {s : St} (h : Two N w p q s) (hb : Below w.heap.size w w') : Two N w' p q s := by
  obtain ⟨b, m, x, f, y, z, h⟩ := h
  exact ⟨b, m, x, f, y, z, h.later hb⟩
/- Both are written to. -/
def OpKept (w w' : World) : Prop := ∀ (j : Nat) (cs : Array Value), w.heap[j]? = some (.cells cs 35) → w'.heap[j]? = some (.cells cs 35)
theorem OpKept.trans {a b c : World} (h : OpKept a b) (k : OpKept b c) : OpKept a c := fun j cs e => k j cs (h j cs e)
theorem OpKept.ofBelow {a b : World} (h : Below a.heap.size a b) : OpKept a b := fun j cs e => (h.block j (Array.getElem?_eq_some_iff.1 e).1).trans e
structure Mid (N : Nat) (w w' : World) (p q : Nat) (s t : St) : Prop where
  op : OpKept w w'
  tw : ∃ b m x f y z, Tw N w' p q s t b m x f y z
  bl : Below N w w'
  sz : N ≤ w'.heap.size
theorem Dk.notOp {N : Nat} {w : World} {p : Nat} {s : St} {b m : Nat} {x : Value} (h : Dk N w p s b m x) {o : Nat} {cs : Array Value} (ho : w.heap[o]? = some (.cells cs 35)) : ¬ Fd p b m x o := fun e => by
  rcases e with e | e | e | e
  · subst e; have := h.blk; rw [ho] at this; simp at this
  · subst e; obtain ⟨es, cl, hh⟩ := h.mb.isMap; rw [ho] at hh; cases hh
  · subst e; obtain ⟨es, cl, hh⟩ := h.mm.isMap; rw [ho] at hh; cases hh
  · obtain ⟨_, _, cur, hh⟩ := row_type h.row o e; rw [ho] at hh; simp at hh
theorem Rk.notOp {N : Nat} {w : World} {q : Nat} {s : St} {f y x : Value} (h : Rk N w q s f y x) {o : Nat} {cs : Array Value} (ho : w.heap[o]? = some (.cells cs 35)) : ¬ Fr q f y x o := fun e => by
  rcases e with e | e | e | e
  · subst e; have := h.blk; rw [ho] at this; simp at this
  · obtain ⟨_, _, cur, hh⟩ := row_type h.fst o e; rw [ho] at hh; simp at hh
  · obtain ⟨_, _, cur, hh⟩ := row_type h.blo o e; rw [ho] at hh; simp at hh
  · obtain ⟨_, _, cur, hh⟩ := row_type h.log o e; rw [ho] at hh; simp at hh
section
variable {N o : Nat} {w w' : World} {p q : Nat} {s t : St} {at' : Int} {tx : ByteArray}
theorem Mid.drew (h : Mid N w w' p q s t) : Mid N w w'.drew p q s t := by
  obtain ⟨b, m, x, f, y, z, hT⟩ := h.tw
  refine ⟨fun j cs e => h.op j cs e, ⟨b, m, x, f, y, z, hT.later (Below.refl _ w').drew⟩, h.bl.drew, h.sz⟩
theorem Mid.two (h : Mid N w w' p q s s) : Two N w' p q s := h.tw
theorem Mid.later {w'' : World} (h : Mid N w w' p q s t) (hb : Below w'.heap.size w' w'') : Mid N w w'' p q s t := by
  obtain ⟨b, m, x, f, y, z, hT⟩ := h.tw
  exact ⟨h.op.trans (OpKept.ofBelow hb), ⟨b, m, x, f, y, z, hT.later hb⟩, belowN h.bl (belowW hb h.sz), Nat.le_trans h.sz hb.size⟩
theorem Mid.left {s' : St} (h : Mid N w w' p q s t) {b m : Nat} {x f y z : Value} (hT : Tw N w' p q s t b m x f y z) {w'' : World} (hW : Wrote N w' p s' b m x w'') : Mid N w w'' p q s' t := by
  obtain ⟨x', hT', hk⟩ := hT.left hW
  exact ⟨fun j cs e => (hk.block j (Array.getElem?_eq_some_iff.1 (h.op j cs e)).1 (hT.d.notOp (h.op j cs e))).trans (h.op j cs e), ⟨b, m, x', f, y, z, hT'⟩, belowK h.bl hk (fun i hi => (hT.d.inHeap i hi).2) h.sz, Nat.le_trans h.sz hk.size⟩
theorem Mid.right {t' : St} (h : Mid N w w' p q s t) {b m : Nat} {x f y z : Value} (hT : Tw N w' p q s t b m x f y z) {w'' : World} (hW : RWrote N w' q t' f y z w'') : Mid N w w'' p q s t' := by
  obtain ⟨z', hT', hk⟩ := hT.right hW
  exact ⟨fun j cs e => (hk.block j (Array.getElem?_eq_some_iff.1 (h.op j cs e)).1 (hT.r.notOp (h.op j cs e))).trans (h.op j cs e), ⟨b, m, x, f, y, z', hT'⟩, belowK h.bl hk (fun i hi => (hT.r.inHeap i hi).2) h.sz, Nat.le_trans h.sz hk.size⟩
theorem mid_left (h : Mid N w w' p q s t) (hw : (Lit.int .i64 at').wf = true) (ht : tx.size ≤ 9223372036854775807) (hl : s.log.length + 1 ≤ 5864062014805) :
    Calls Try.prog 22 #[.pointer (some ⟨p, 0, none⟩), .int .i64 at', .string tx] w' fun e w'' => e = .returned (.int .i64 (we s.left at' tx)) ∧ Mid N w w'' p q (nx s at' tx) t := by
  obtain ⟨b, m, x, f, y, z, hT⟩ := h.tw
  exact (write_any N w' p s b m x hT.d at' tx hw ht hl h.sz).mono fun e w'' ⟨he, hW⟩ => ⟨he, h.left hT hW⟩
theorem mid_right (h : Mid N w w' p q s t) (ht : tx.size ≤ 9223372036854775807) (hl : t.log.length + 1 ≤ 5864062014805) :
    Calls Try.prog 26 #[.pointer (some ⟨q, 0, none⟩), .int .i64 at', .string tx] w' fun e w'' => e = .returned (.int .i64 (we t.left at' tx)) ∧ Mid N w w'' p q s (nx t at' tx) := by
  obtain ⟨b, m, x, f, y, z, hT⟩ := h.tw
  exact (rWrite_any N w' q t f y z hT.r at' tx ht hl h.sz).mono fun e w'' ⟨he, hW⟩ => ⟨he, h.right hT hW⟩
theorem mid_up (h : Mid N w w' p q s t) (n : Int) (hn : n ≤ 9223372036854775807) :
    Calls Try.prog 24 #[.pointer (some ⟨p, 0, none⟩), .int .i64 n] w' fun e w'' => e = .returned (.tuple #[]) ∧ Mid N w w'' p q ⟨s.img, s.log, max n (-1)⟩ t := by
  obtain ⟨b, m, x, f, y, z, hT⟩ := h.tw
  exact (up_any N w' p s b m x hT.d n hn).mono fun e w'' ⟨he, hd, hk⟩ => ⟨he, h.left hT ⟨x, hd, hk, fun k hk => .inl hk⟩⟩
theorem mid_rUp (h : Mid N w w' p q s t) (n : Int) (hn : n ≤ 9223372036854775807) :
    Calls Try.prog 29 #[.pointer (some ⟨q, 0, none⟩), .int .i64 n] w' fun e w'' => e = .returned (.tuple #[]) ∧ Mid N w w'' p q s ⟨t.img, t.log, max n (-1)⟩ := by
  obtain ⟨b, m, x, f, y, z, hT⟩ := h.tw
  exact (rUp_any N w' q t f y z hT.r n hn).mono fun e w'' ⟨he, hd, hk⟩ => ⟨he, h.right hT ⟨z, hd, hk, fun k hk => .inl hk⟩⟩
theorem mid_off (h : Mid N w w' p q s t) :
    Calls Try.prog 23 #[.pointer (some ⟨p, 0, none⟩)] w' fun e w'' => e = .returned (.tuple #[]) ∧ Mid N w w'' p q ⟨s.img, s.log, 0⟩ t := by
  obtain ⟨b, m, x, f, y, z, hT⟩ := h.tw
  exact (off_any N w' p s b m x hT.d).mono fun e w'' ⟨he, hd, hk⟩ => ⟨he, h.left hT ⟨x, hd, hk, fun k hk => .inl hk⟩⟩
theorem mid_rOff (h : Mid N w w' p q s t) :
    Calls Try.prog 30 #[.pointer (some ⟨q, 0, none⟩)] w' fun e w'' => e = .returned (.tuple #[]) ∧ Mid N w w'' p q s ⟨t.img, t.log, 0⟩ := by
  obtain ⟨b, m, x, f, y, z, hT⟩ := h.tw
  exact (rOff_any N w' q t f y z hT.r).mono fun e w'' ⟨he, hd, hk⟩ => ⟨he, h.right hT ⟨z, hd, hk, fun k hk => .inl hk⟩⟩
end
def StepDone (N : Nat) (w : World) (p q : Nat) (s : St) (w' : World) : Prop := Two N w' p q s ∧ OpKept w w' ∧ Below N w w'
theorem Mid.done {N : Nat} {w w0 w' : World} {p q : Nat} {s : St} (h : Mid N w0 w' p q s s) (hb : Below w.heap.size w w0) (hN : N ≤ w.heap.size) : StepDone N w p q s w' :=
  ⟨h.tw, (OpKept.ofBelow hb).trans h.op, belowN (belowW hb hN) h.bl⟩
/- Texts and writes that are told, as they stand in a world that goes on from w. -/
theorem two_image {N : Nat} {w : World} {p q : Nat} {s : St} (h : Two N w p q s) (hl : s.log.length ≤ 5864062014805) {T : Nat} (hT : (im s.bl).length = T) : ∀ W, Below w.heap.size w W →
    Calls Try.prog 18 #[.pointer (some ⟨p, 0, none⟩)] W fun e W' => ∃ a cap, e = .returned (.slice a T cap) ∧ RdS W' a (im s.bl) ∧ Below w.heap.size w W' ∧ Below W.heap.size W W' := fun W hb => by
  obtain ⟨b, m, x, f, y, z, hTw⟩ := h
  refine (image_any N W p s b m x (hTw.d.later hb) hl).mono ?_
  rintro e W' ⟨v, rfl, hr, hb'⟩
  obtain ⟨a, cap, e⟩ := row_spell hr
  subst e
  rw [hT]
  exact ⟨a, cap, rfl, hr.rd, thenB hb hb', hb'⟩
theorem two_rImage {N : Nat} {w : World} {p q : Nat} {s : St} (h : Two N w p q s) {T : Nat} (hT : (im s.bl).length = T) : ∀ W, Below w.heap.size w W →
    Calls Try.prog 19 #[.pointer (some ⟨q, 0, none⟩)] W fun e W' => ∃ a cap, e = .returned (.slice a T cap) ∧ RdS W' a (im s.bl) ∧ Below w.heap.size w W' ∧ Below W.heap.size W W' := fun W hb => by
  obtain ⟨b, m, x, f, y, z, hTw⟩ := h
  refine (rImage_any N W q s f y z (hTw.r.later hb)).mono ?_
  rintro e W' ⟨v, rfl, hr, hb'⟩
  obtain ⟨a, cap, e⟩ := row_spell hr
  subst e
  rw [hT]
  exact ⟨a, cap, rfl, hr.rd, thenB hb hb', hb'⟩
theorem two_writes {N : Nat} {w : World} {p q : Nat} {s : St} (h : Two N w p q s) (hl : s.log.length ≤ 5864062014805) {L : Nat} (hL : s.log.length = L) : ∀ W, Below w.heap.size w W →
    Calls Try.prog 21 #[.pointer (some ⟨p, 0, none⟩)] W fun e W' => ∃ a cap, e = .returned (.slice a L cap) ∧ RdW W' a s.log ∧ Below w.heap.size w W' ∧ Below W.heap.size W W' := fun W hb => by
  obtain ⟨b, m, x, f, y, z, hTw⟩ := h
  refine (writes_any N W p s b m x (hTw.d.later hb) hl).mono ?_
  rintro e W' ⟨v, rfl, hr, hb'⟩
  obtain ⟨a, cap, e⟩ := row_spell hr
  subst e
  rw [hL]
  exact ⟨a, cap, rfl, hr.rd, thenB hb hb', hb'⟩
theorem two_log {N : Nat} {w : World} {p q : Nat} {s : St} (h : Two N w p q s) {L : Nat} (hL : s.log.length = L) : ∃ a cap, ∀ W, Below w.heap.size w W → W.cell? ⟨q, 2, none⟩ = some (.slice a L cap) ∧ RdW W a s.log := by
  obtain ⟨b, m, x, f, y, z, hTw⟩ := h
  obtain ⟨a, cap, e⟩ := row_spell hTw.r.log
  subst e
  refine ⟨a, cap, fun W hb => ?_⟩
  have h' := hTw.r.later hb
  exact ⟨by rw [← hL]; exact h'.c2, h'.log.rd⟩
theorem same_n {l : List ByteArray} {T : Nat} (hT : l.length = T) (hl : T ≤ 8796093022208) : ∀ (a a' : Option Addr) (c c' : Nat) (W : World), RdS W a l → RdS W a' l →
    Calls Try.prog 17 #[.slice a T c, .slice a' T c'] W fun e w' => e = .returned (.bool true) ∧ Below W.heap.size W w' := by
  subst hT
  exact fun a a' c c' W h1 h2 => same_any a a' c c' l W hl h1 h2
theorem sameW_n {l : List (Int × ByteArray)} {L : Nat} (hL : l.length = L) (hl : L ≤ 8796093022208) : ∀ (a a' : Option Addr) (c c' : Nat) (W : World), RdW W a l → RdW W a' l →
    Calls Try.prog 20 #[.slice a L c, .slice a' L c'] W fun e w' => e = .returned (.bool true) ∧ Below W.heap.size W w' := by
  subst hL
  exact fun a a' c c' W h1 h2 => sameW_any a a' c c' l W hl h1 h2
end Go.Proofs.Ytifjihdanbbhkaa
