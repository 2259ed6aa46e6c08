/- Two objects of the program's know beside two of the document's. -/
import Derived.Test.YtompgoaogomoaaaKnPl
import Derived.Test.YtompgoaogomoaaaKnAf
namespace Go.Proofs.Ytompgoaogomoaaa.Kn
open Go.RowKit Go.Maps
set_option linter.unusedVariables false
set_option linter.unusedSimpArgs false

abbrev Dj (F G : Nat → Prop) : Prop := ∀ k, F k → ¬ G k
theorem Dj.symm {F G : Nat → Prop} (h : Dj F G) : Dj G F := fun k e e' => h k e' e
theorem Dj.grown {F F' G : Nat → Prop} {n : Nat} (h : Dj F G) (hF : ∀ k, F' k → F k ∨ n ≤ k) (hG : ∀ k, G k → k < n) : Dj F' G := fun k e e' => by
  rcases hF k e with q | q
  · exact h k q e'
  · have := hG k e'; omega
structure Fo (PAt : PPred) (M : Nat) (w3 w : World) (N N2 p p2 : Nat) (l l2 : List Op9) (F : Nat → Prop) (vt vb vx : Value) (N3 N4 p3 p4 : Nat) (l3 l4 : List Op9) (F3 : Nat → Prop) (ut ub ux : Value) : Prop where
  a : POps PAt w N p l F
  b : DocAt w N2 p2 l2 vt vb vx
  c : POps PAt w N3 p3 l3 F3
  d : DocAt w N4 p4 l4 ut ub ux
  ab : Dj F (Fk p2 vt vb vx)
  ac : Dj F F3
  ad : Dj F (Fk p4 ut ub ux)
  bc : Dj (Fk p2 vt vb vx) F3
  bd : Dj (Fk p2 vt vb vx) (Fk p4 ut ub ux)
  cd : Dj F3 (Fk p4 ut ub ux)
  bel : Below M w3 w
  mn : M ≤ N ∧ M ≤ N2 ∧ M ≤ N3 ∧ M ≤ N4
  sz : N ≤ w.heap.size ∧ N2 ≤ w.heap.size ∧ N3 ≤ w.heap.size ∧ N4 ≤ w.heap.size
section
variable {PAt : PPred} {Rm : RPred} {M : Nat} {w3 w w' : World} {N N2 p p2 N3 N4 p3 p4 : Nat} {l l' l2 l3 l4 : List Op9} {F F3 : Nat → Prop} {vt vb vx ut ub ux : Value}
theorem Fo.swap (h : Fo PAt M w3 w N N2 p p2 l l2 F vt vb vx N3 N4 p3 p4 l3 l4 F3 ut ub ux) : Fo PAt M w3 w N3 N4 p3 p4 l3 l4 F3 ut ub ux N N2 p p2 l l2 F vt vb vx :=
  ⟨h.c, h.d, h.a, h.b, h.cd, h.ac.symm, h.bc.symm, h.ad.symm, h.bd.symm, h.ab, h.bel, ⟨h.mn.2.2.1, h.mn.2.2.2, h.mn.1, h.mn.2.1⟩, ⟨h.sz.2.2.1, h.sz.2.2.2, h.sz.1, h.sz.2.1⟩⟩
theorem Fo.later (A : KApi PAt Rm) (h : Fo PAt M w3 w N N2 p p2 l l2 F vt vb vx N3 N4 p3 p4 l3 l4 F3 ut ub ux) (hb : Below w.heap.size w w') : Fo PAt M w3 w' N N2 p p2 l l2 F vt vb vx N3 N4 p3 p4 l3 l4 F3 ut ub ux :=
  ⟨A.later h.a hb, h.b.later hb, A.later h.c hb, h.d.later hb, h.ab, h.ac, h.ad, h.bc, h.bd, h.cd, h.bel.trans (hb.mono (Nat.le_trans h.mn.1 h.sz.1)), h.mn, by have := hb.size; have := h.sz; omega⟩
theorem Fo.one (A : KApi PAt Rm) (h : Fo PAt M w3 w N N2 p p2 l l2 F vt vb vx N3 N4 p3 p4 l3 l4 F3 ut ub ux) (hd : PPo PAt w w' N p l' F) : ∃ F', Fo PAt M w3 w' N N2 p p2 l' l2 F' vt vb vx N3 N4 p3 p4 l3 l4 F3 ut ub ux := by
  obtain ⟨F', h1, h2, h3⟩ := hd
  have hs := h2.size
  have hz := h.sz
  exact ⟨F', h1, h.b.kept h2 h.ab.symm, A.kept h.c h2 h.ac.symm, h.d.kept h2 h.ad.symm, h.ab.grown h3 h.b.lt, h.ac.grown h3 fun k e => (A.ge h.c k e).2, h.ad.grown h3 h.d.lt, h.bc, h.bd, h.cd,
    h.bel.trans (h2.below (Nat.le_trans h.mn.1 h.sz.1) fun k e => Nat.le_trans h.mn.1 (A.ge h.a k e).1), h.mn, by omega⟩
theorem Fo.two (A : KApi PAt Rm) (h : Fo PAt M w3 w N N2 p p2 l l2 F vt vb vx N3 N4 p3 p4 l3 l4 F3 ut ub ux) (hd : DocP w w' N2 p2 l' vt vb vx) : ∃ vt' vb' vx', Fo PAt M w3 w' N N2 p p2 l l' F vt' vb' vx' N3 N4 p3 p4 l3 l4 F3 ut ub ux := by
  obtain ⟨vt', vb', vx', h1, h2, h3⟩ := hd
  have hs := h2.size
  have hz := h.sz
  refine ⟨vt', vb', vx', A.kept h.a h2 h.ab, h1, A.kept h.c h2 h.bc.symm, h.d.kept h2 h.bd.symm, (h.ab.symm.grown h3 fun k e => (A.ge h.a k e).2).symm, h.ac, h.ad, h.bc.grown h3 fun k e => (A.ge h.c k e).2, h.bd.grown h3 h.d.lt, h.cd,
    h.bel.trans (h2.below (Nat.le_trans h.mn.1 h.sz.1) fun k e => Nat.le_trans h.mn.2.1 (h.b.ge k e)), h.mn, by omega⟩
theorem Fo.three (A : KApi PAt Rm) (h : Fo PAt M w3 w N N2 p p2 l l2 F vt vb vx N3 N4 p3 p4 l3 l4 F3 ut ub ux) (hd : PPo PAt w w' N3 p3 l' F3) : ∃ F', Fo PAt M w3 w' N N2 p p2 l l2 F vt vb vx N3 N4 p3 p4 l' l4 F' ut ub ux := by
  obtain ⟨F', h1⟩ := h.swap.one A hd
  exact ⟨F', h1.swap⟩
theorem Fo.four (A : KApi PAt Rm) (h : Fo PAt M w3 w N N2 p p2 l l2 F vt vb vx N3 N4 p3 p4 l3 l4 F3 ut ub ux) (hd : DocP w w' N4 p4 l' ut ub ux) : ∃ ut' ub' ux', Fo PAt M w3 w' N N2 p p2 l l2 F vt vb vx N3 N4 p3 p4 l3 l' F3 ut' ub' ux' := by
  obtain ⟨ut', ub', ux', h1⟩ := h.swap.two A hd
  exact ⟨ut', ub', ux', h1.swap⟩
/- What a block beside all four is told of. -/
def Fo.All (F : Nat → Prop) (p2 : Nat) (vt vb vx : Value) (F3 : Nat → Prop) (p4 : Nat) (ut ub ux : Value) (k : Nat) : Prop := F k ∨ Fk p2 vt vb vx k ∨ F3 k ∨ Fk p4 ut ub ux k
theorem Fo.lt (A : KApi PAt Rm) (h : Fo PAt M w3 w N N2 p p2 l l2 F vt vb vx N3 N4 p3 p4 l3 l4 F3 ut ub ux) : ∀ k, Fo.All F p2 vt vb vx F3 p4 ut ub ux k → k < w.heap.size := by
  rintro k (e | e | e | e)
  · exact (A.ge h.a k e).2
  · exact h.b.lt k e
  · exact (A.ge h.c k e).2
  · exact h.d.lt k e
theorem Fo.kept (A : KApi PAt Rm) (h : Fo PAt M w3 w N N2 p p2 l l2 F vt vb vx N3 N4 p3 p4 l3 l4 F3 ut ub ux) {G : Nat → Prop} (hk : Kept G w w') (hG : ∀ k, Fo.All F p2 vt vb vx F3 p4 ut ub ux k → ¬ G k) (hM : ∀ k, G k → M ≤ k) : Fo PAt M w3 w' N N2 p p2 l l2 F vt vb vx N3 N4 p3 p4 l3 l4 F3 ut ub ux := by
  have hs := hk.size
  have hz := h.sz
  exact ⟨A.kept h.a hk fun k e => hG k (.inl e), h.b.kept hk fun k e => hG k (.inr (.inl e)), A.kept h.c hk fun k e => hG k (.inr (.inr (.inl e))), h.d.kept hk fun k e => hG k (.inr (.inr (.inr e))), h.ab, h.ac, h.ad, h.bc, h.bd, h.cd,
    h.bel.trans (hk.below (Nat.le_trans h.mn.1 h.sz.1) hM), h.mn, by omega⟩
/- The copies of both. -/
theorem Fo.start (A : KApi PAt Rm) {wa wb : World} {F3 : Nat → Prop} (h : Pl PAt w3 w N N2 p p2 l l2 F vt vb vx) (hba : Below w.heap.size w wa) (h3 : POps PAt wa w.heap.size p3 l3 F3) (hbb : Below wa.heap.size wa wb) (h4 : DocAt wb wa.heap.size p4 l4 ut ub ux) :
    Fo PAt N w3 wb N N2 p p2 l l2 F vt vb vx w.heap.size wa.heap.size p3 p4 l3 l4 F3 ut ub ux := by
  have s1 := hba.size
  have s2 := hbb.size
  have hnn := h.nn
  have hsz := h.sz
  have hb2 := Rt.Below.then hba hbb
  have g3 := fun k (e : F3 k) => A.ge h3 k e
  have ga := fun k (e : F k) => (A.ge h.a k e).2
  refine ⟨A.later h.a hb2, h.b.later hb2, A.later h3 hbb, h4, h.ap, fun k e e' => ?_, fun k e e' => ?_, fun k e e' => ?_, fun k e e' => ?_, fun k e e' => ?_, h.bel.trans (hb2.mono (by omega)), by omega, by omega⟩
  · have := ga k e; have := (g3 k e').1; omega
  · have := ga k e; have := h4.ge k e'; omega
  · have := h.b.lt k e; have := (g3 k e').1; omega
  · have := h.b.lt k e; have := h4.ge k e'; omega
  · have := (g3 k e).2; have := h4.ge k e'; omega
theorem DocAt.copy (h : DocAt w N p l vt vb vx) (hl : l.length < 2748779069440) : Calls Try.prog 30 #[.pointer (some ⟨p, 0, none⟩)] w fun e w' => ∃ p' vt' vb' vx', e = .returned (.pointer (some ⟨p', 0, none⟩)) ∧ DocAt w' w.heap.size p' l vt' vb' vx' ∧ Below w.heap.size w w' := by
  obtain ⟨s, h1, h2⟩ := h.out
  refine (rcopy_any w N p s vt vb vx h1 (by have := h2.lT; omega) (by have := h2.lB; omega) (by have := h2.lX; omega)).mono ?_
  rintro e w' ⟨p', vt', vb', vx', rfl, h3, h4⟩
  exact ⟨p', vt', vb', vx', rfl, ⟨s, h3, h2⟩, h4⟩
end
end Go.Proofs.Ytompgoaogomoaaa.Kn
