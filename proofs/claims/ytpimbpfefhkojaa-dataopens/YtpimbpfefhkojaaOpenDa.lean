/- Opening a sealed text that came in as an argument. -/
import Derived.Test.YtpimbpfefhkojaaOpJ
import Derived.Test.YtpimbpfefhkojaaDaA
namespace Go.Proofs.Ytpimbpfefhkojaa.Rv
open Go.ChangeShapes Go.WideShapes Go.ChangeAt Go.RowKit Go.Joins Go.Deep Mb
set_option linter.unusedVariables false
set_option maxRecDepth 20000
set_option linter.unusedSimpArgs false

section
variable {H : Type} {enc : TypeId × Value → H} {W : World} {base : Nat} {spare : Nat → Bool} {held : Bool}
theorem open_sd {r : Reach} {b0 : Nat} {v : Value} {d : DataW H} {ps : List MemPlace} (hs : ∀ parts, d = .agg parts → (DataW.weightsEach Try.prog [ 3, 23, 9 ] parts).all (· ≤ reachBytes) = true)
    (hv : Value.okWide Try.prog W r b0 30 v) (h : DataW.Trod enc Try.prog W base spare held 30 v d ps) :
    ∃ y : Sd, v = .agg (Wi.sdl y).toArray ∧ y.2.2.size < 4611686018427387904 := by
  unfold Value.okWide at hv
  rw [Try.underlying30 ] at hv
  obtain ⟨cs, rfl, _⟩ := hv
  obtain ⟨fuel, hf⟩ := h
  obtain ⟨y, e, hy⟩ := Wi.sealed_raw hs hf
  refine ⟨y, congrArg Value.agg ?_, hy⟩
  apply Array.ext'
  simpa [Value.cells] using e
end
end Go.Proofs.Ytpimbpfefhkojaa.Rv
