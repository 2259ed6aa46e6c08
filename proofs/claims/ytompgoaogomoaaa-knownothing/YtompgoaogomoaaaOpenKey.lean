/- Opening a key (a struct of two integers) and a box (two keys) that came in as arguments. -/
import Derived.Test.YtompgoaogomoaaaChecked
import Derived.WalkKit
import Derived.ProofKit
import Derived.OpenShut
import Derived.Below
import Derived.Lib.SmallJoins
namespace Go.Proofs.Ytompgoaogomoaaa
open Go.ChangeShapes Go.WideShapes Go.ChangeAt Go.RowKit Go.Joins Go.Deep

section
variable {P : Program} {H : Type} {enc : TypeId × Value → H} {w : World} {base : Nat} {spare : Nat → Bool} {held : Bool} {r : Reach} {b0 : Nat}
theorem open_pair {t e : TypeId} {k : IntKind} {f0 f1 : Field} {v : Value} {d : DataW H} {ps : List MemPlace}
    (hs : P.underlying t = some (.struct #[f0, f1])) (hone : oneCellFields P #[f0, f1] = true) (hC : P.cellsOf t = 2) (e0 : f0.type = e) (e1 : f1.type = e) (he : P.underlying e = some (.int k))
    (hv : Value.okWide P w r b0 t v) (h : DataW.Trod enc P w base spare held t v d ps) :
    ∃ a b, v = .agg #[.int k a, .int k b] ∧ (Lit.int k a).wf = true ∧ (Lit.int k b).wf = true := by
  obtain ⟨c0, c1, y0, y1, m, rfl, _, _, h0, h1⟩ := open_agg2 hs hone hC hv h
  rw [e0] at h0
  rw [e1] at h1
  obtain ⟨a, q0, _, wa⟩ := DataW.trod_int he h0
  obtain ⟨b, q1, _, wb⟩ := DataW.trod_int he h1
  simp at q0 q1
  subst q0 q1
  exact ⟨a, b, rfl, wa, wb⟩
theorem open_quad {t u e : TypeId} {k : IntKind} {f0 f1 g0 g1 : Field} {v : Value} {d : DataW H} {ps : List MemPlace}
    (hs : P.underlying t = some (.struct #[g0, g1])) (hC : P.cellsOf t = 4) (t0 : g0.type = u) (t1 : g1.type = u) (o0 : g0.offset = 0) (o1 : g1.offset = 2)
    (hu : P.underlying u = some (.struct #[f0, f1])) (hD : P.cellsOf u = 2) (hone : oneCellFields P #[f0, f1] = true) (e0 : f0.type = e) (e1 : f1.type = e) (he : P.underlying e = some (.int k))
    (hv : Value.okWide P w r b0 t v) (h : DataW.Trod enc P w base spare held t v d ps) :
    ∃ a b c d, v = .agg #[.int k a, .int k b, .int k c, .int k d] ∧ (Lit.int k a).wf = true ∧ (Lit.int k b).wf = true ∧ (Lit.int k c).wf = true ∧ (Lit.int k d).wf = true := by
  obtain ⟨cs, rfl, hsz⟩ := okWide_struct hs hv
  obtain ⟨c0, c1, c2, c3, rfl⟩ := array4 (hsz.trans hC)
  obtain ⟨fuel, hf⟩ := h
  obtain ⟨y0, y1, n, _, _, h0, h1⟩ := trod_struct2 hs hf
  rw [t0, o0, hD] at h0
  rw [t1, o1, hD] at h1
  obtain ⟨p0, p1, _, _, _, h00, h01⟩ := trod_struct2 hu h0
  obtain ⟨p2, p3, _, _, _, h10, h11⟩ := trod_struct2 hu h1
  obtain ⟨s0, k0⟩ := hone_of hone 0 f0 rfl
  obtain ⟨s1, k1⟩ := hone_of hone 1 f1 rfl
  simp [Value.cells, s0, k0, s1, k1] at h00 h01 h10 h11
  rw [e0] at h00 h10
  rw [e1] at h01 h11
  obtain ⟨a, q0, _, wa⟩ := DataW.trod_int he h00
  obtain ⟨b, q1, _, wb⟩ := DataW.trod_int he h01
  obtain ⟨c, q2, _, wc⟩ := DataW.trod_int he h10
  obtain ⟨d, q3, _, wd⟩ := DataW.trod_int he h11
  simp at q0 q1 q2 q3
  subst q0 q1 q2 q3
  exact ⟨a, b, c, d, rfl, wa, wb, wc, wd⟩
end
end Go.Proofs.Ytompgoaogomoaaa
