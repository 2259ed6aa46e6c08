/- The program's know beside the document's. -/
import Derived.Test.YtompgoaogomoaaaKnTw
namespace Go.Proofs.Ytompgoaogomoaaa.Kn
open Go.RowKit Go.Maps
open Rt (Gd gd gd_yes gd_no rGood_any)
set_option linter.unusedVariables false
set_option linter.unusedSimpArgs false

theorem DocAt.lt {w : World} {N p : Nat} {l : List Op9} {vt vb vx : Value} (h : DocAt w N p l vt vb vx) : ∀ k, Fk p vt vb vx k → k < w.heap.size := by
  obtain ⟨s, h1, -⟩ := h.out
  rintro k (e | e | e | e)
  · exact e ▸ (Array.getElem?_eq_some_iff.1 h1.blk).1
  · exact (own_type h1.told e).2.1
  · exact (own_type h1.box e).2.1
  · exact (own_type h1.txt e).2.1
theorem docAt_new (w : World) : DocAt (w.alloc (.cells #[.slice none 0 0, .slice none 0 0, .slice none 0 0] 31)) w.heap.size w.heap.size [] (.slice none 0 0) (.slice none 0 0) (.slice none 0 0) :=
  ⟨⟨[], [], []⟩, ⟨_root_.Go.heap_alloc_last w _, World.ownsRow_nil _ _ _ _, World.ownsRow_nil _ _ _ _, World.ownsRow_nil _ _ _ _, Nat.le_refl _, by simp, by simp⟩, Of.nil⟩
structure Pl (PAt : PPred) (w2 w : World) (N N2 p p2 : Nat) (l l2 : List Op9) (F : Nat → Prop) (vt vb vx : Value) : Prop where
  a : POps PAt w N p l F
  b : DocAt w N2 p2 l2 vt vb vx
  ap : ∀ k, F k → ¬ Fk p2 vt vb vx k
  bel : Below N w2 w
  sz : N2 ≤ w.heap.size
  nn : N ≤ N2
section
variable {PAt : PPred} {Rm : RPred} {w2 w w' : World} {N N2 p p2 : Nat} {l l' l2 : List Op9} {F : Nat → Prop} {vt vb vx : Value} {f : Nat → Int}
theorem Pl.later (A : KApi PAt Rm) (h : Pl PAt w2 w N N2 p p2 l l2 F vt vb vx) (hb : Below w.heap.size w w') : Pl PAt w2 w' N N2 p p2 l l2 F vt vb vx :=
  ⟨A.later h.a hb, h.b.later hb, h.ap, h.bel.trans (hb.mono (Nat.le_trans h.nn h.sz)), Nat.le_trans h.sz hb.size, h.nn⟩
theorem Pl.one (A : KApi PAt Rm) (h : Pl PAt w2 w N N2 p p2 l l2 F vt vb vx) (hd : PPo PAt w w' N p l' F) : ∃ F', Pl PAt w2 w' N N2 p p2 l' l2 F' vt vb vx := by
  obtain ⟨F', h1, h2, h3⟩ := hd
  refine ⟨F', h1, h.b.kept h2 (fun k e e' => h.ap k e' e), fun k e e' => ?_, h.bel.trans (h2.below (Nat.le_trans h.nn h.sz) fun k e => (A.ge h.a k e).1), Nat.le_trans h.sz h2.size, h.nn⟩
  rcases h3 k e with h4 | h4
  · exact h.ap k h4 e'
  · have := h.b.lt k e'; omega
theorem Pl.two (A : KApi PAt Rm) (h : Pl PAt w2 w N N2 p p2 l l2 F vt vb vx) (hd : DocP w w' N2 p2 l' vt vb vx) : ∃ vt' vb' vx', Pl PAt w2 w' N N2 p p2 l l' F vt' vb' vx' := by
  obtain ⟨vt', vb', vx', h1, h2, h3⟩ := hd
  refine ⟨vt', vb', vx', A.kept h.a h2 (fun k e e' => h.ap k e e'), h1, fun k e e' => ?_, h.bel.trans ((h2.below h.sz h.b.ge).mono h.nn), Nat.le_trans h.sz h2.size, h.nn⟩
  rcases h3 k e' with h4 | h4
  · exact h.ap k e h4
  · have := (A.ge h.a k e).2; omega
theorem Pl.start (A : KApi PAt Rm) (h1 : POps PAt w N p l F) (hN : N ≤ w.heap.size) : Pl PAt (w.alloc (.cells #[.slice none 0 0, .slice none 0 0, .slice none 0 0] 31)) (w.alloc (.cells #[.slice none 0 0, .slice none 0 0, .slice none 0 0] 31)) N w.heap.size p w.heap.size l [] F (.slice none 0 0) (.slice none 0 0) (.slice none 0 0) :=
  ⟨A.later h1 (Rt.below1 _ _), docAt_new w, fun k e e' => by have h3 := (A.ge h1 k e).2; have h4 := (docAt_new w).ge k e'; omega, Below.refl _ _, (Rt.below1 _ _).size, hN⟩
theorem doc_keys (h : DocAt w N2 p2 l2 vt vb vx) (hl : l2.length < 2748779069440) (hT : Tab (toldL l2) (boxL l2) f) :
    Calls Try.prog 22 #[.pointer (some ⟨p2, 0, none⟩)] w fun e w' => ∃ a c, e = .returned (.slice a (keysT f 32768).length c) ∧ Rt.RdAt w' a (keysT f 32768) ∧ Below w.heap.size w w' := by
  refine (h.keys hl).mono ?_
  rintro e w' ⟨v, g, rfl, hTg, hrow, hb⟩
  have e : g = f := hTg.eq hT fun _ => Iff.rfl
  subst e
  obtain ⟨a, c, rfl, hrd, -⟩ := rdAt_of hrow
  exact ⟨a, c, rfl, hrd, hb⟩
end
end Go.Proofs.Ytompgoaogomoaaa.Kn
