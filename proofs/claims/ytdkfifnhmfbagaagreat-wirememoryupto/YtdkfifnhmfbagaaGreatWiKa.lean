/- Same, Good of opaque messages. -/
import Derived.Test.YtdkfifnhmfbagaaGreatWiK
import Derived.Test.YtdkfifnhmfbagaaGreatWiH
import Derived.Test.YtdkfifnhmfbagaaGreatWiJ2
namespace Go.Proofs.YtdkfifnhmfbagaaGreat.Wi
open Go.RowKit Go.Maps
open Bt (tx pk tb bys)
set_option linter.unusedVariables false
set_option linter.unusedSimpArgs false

theorem sameV {w : World} {m m' : Msg} {ct dt : List Value} (h1 : MV w m ct) (h2 : MV w m' dt) : Calls Tryz.prog 12 #[.agg ct.toArray, .agg dt.toArray] w fun e w' => (∃ b, e = .returned (.bool b) ∧ (b = true ↔ m = m')) ∧ Below w.heap.size w w' := by
  obtain ⟨aL, aJ, aI, cL, cJ, cI, rfl, hr⟩ := h1
  obtain ⟨bL, bJ, bI, dL, dJ, dI, rfl, hs⟩ := h2
  exact same_any m m' aL aJ aI bL bJ bI cL cJ cI dL dJ dI w hr hs
theorem sameT {w : World} {m m' : Msg} {ct dt : List Value} (h1 : MV w m ct) (h2 : MV w m' dt) (e : m = m') : Calls Tryz.prog 12 #[.agg ct.toArray, .agg dt.toArray] w fun e w' => e = .returned (.bool true) ∧ Below w.heap.size w w' := by
  refine (sameV h1 h2).mono ?_
  rintro q w' ⟨⟨b, rfl, hb⟩, hB⟩
  exact ⟨by rw [hb.2 e], hB⟩
theorem goodV {w : World} {m : Msg} {ct : List Value} (h : MV w m ct) : Calls Tryz.prog 7 #[.agg ct.toArray] w fun e w' => e = .returned (.bool (gM m)) ∧ Below w.heap.size w w' := by
  obtain ⟨aL, aJ, aI, cL, cJ, cI, rfl, hr⟩ := h
  exact rGood_any m aL aJ aI cL cJ cI w hr
theorem zM_mv (w : World) : MV w zM (mgl zM (.slice none 0 0) (.slice none 0 0) (.slice none 0 0)) := ⟨none, none, none, 0, 0, 0, rfl, ⟨RdV.nil _ _ _ _, RdV.nil _ _ _ _, RdV.nil _ _ _ _, by decide, by decide, by decide, by decide⟩⟩
theorem enE_cases (m : Msg) : (gM m = true ∧ enE m = 0) ∨ (gM m = false ∧ enE m = 13) := by
  unfold enE
  cases gM m <;> simp
theorem dc_cases (s : ByteArray) : (dcE (tb (bys s)) = 0 ∧ gM (dcM (tb (bys s))) = true ∧ enS (dcM (tb (bys s))) = s) ∨ (dcE (tb (bys s)) = 13 ∧ dcM (tb (bys s)) = zM) := by
  unfold dcE dcM
  cases h : okD (tb (bys s)) with
  | true => exact .inl ⟨rfl, okD_text h⟩
  | false => exact .inr ⟨rfl, rfl⟩
theorem dc_back {m : Msg} (h : gM m = true) : dcE (tb (bys (enS m))) = 0 ∧ dcM (tb (bys (enS m))) = m := by
  obtain ⟨h1, h2⟩ := en_back h
  unfold dcE dcM
  rw [h1, h2]
  exact ⟨rfl, rfl⟩
end Go.Proofs.YtdkfifnhmfbagaaGreat.Wi
