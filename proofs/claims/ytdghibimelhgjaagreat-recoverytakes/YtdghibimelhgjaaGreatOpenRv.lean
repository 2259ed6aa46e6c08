/- Opening a reply that came in as an argument. -/
import Derived.Test.YtdghibimelhgjaaGreatOpJ
import Derived.Test.YtdghibimelhgjaaGreatRvB
namespace Go.Proofs.YtdghibimelhgjaaGreat.Rv
open Go.ChangeShapes Go.WideShapes Go.ChangeAt Go.RowKit Go.Joins Go.Deep Mb
set_option linter.unusedVariables false
set_option maxRecDepth 20000
set_option linter.unusedSimpArgs false

section
variable {H : Type} {enc : TypeId × Value → H} {W : World} {base : Nat} {spare : Nat → Bool} {held : Bool}
theorem open_rp {r : Reach} {b0 : Nat} {v : Value} {d : DataW H} {ps : List MemPlace} (hv : Value.okWide Tryz.prog W r b0 47 v) (h : DataW.Trod enc Tryz.prog W base spare held 47 v d ps) :
    ∃ p : Rp, v = .agg (rpa p) := by
  unfold Value.okWide at hv
  rw [Tryz.underlying47 ] at hv
  obtain ⟨cs, rfl, _⟩ := hv
  obtain ⟨fuel, hf⟩ := h
  obtain ⟨p, e⟩ := Wi.reply_raw hf
  refine ⟨p, congrArg Value.agg ?_⟩
  apply Array.ext'
  simpa [Value.cells, rpa] using e
end
end Go.Proofs.YtdghibimelhgjaaGreat.Rv
