/- Contracts: the document's GoodRekey, GoodRequest, GoodReply, GoodSealed. -/
import Derived.Test.YtpimbpfefhkojaaGreatWiJ1
namespace Go.Proofs.YtpimbpfefhkojaaGreat.Wi
open Go.RowKit Go.Maps
open Rt (gd)
open Sh (belB)
set_option linter.unusedVariables false
set_option linter.unusedSimpArgs false

theorem gS_split (s : Int × Int) : gS s = (gW s.1 && gL s.2) := rfl
theorem gI_no1 {i : (Int × Int) × ((Int × Int) × (Int × Int))} (h : ¬ (0 ≤ i.1.1 ∧ i.1.1 < 21)) : gI i = false := by
  unfold gI
  by_cases h0 : 0 ≤ i.1.1
  · rw [decide_eq_false (show ¬ i.1.1 < 21 from fun h1 => h ⟨h0, h1⟩), Bool.and_false]; rfl
  · rw [decide_eq_false h0]; rfl
theorem gI_yes1 {i : (Int × Int) × ((Int × Int) × (Int × Int))} (h0 : 0 ≤ i.1.1) (h1 : i.1.1 < 21) : gI i = (dpr i.1.1 i.1.2 && gB i.2) := by
  unfold gI
  rw [decide_eq_true h0, decide_eq_true h1]; rfl
end Go.Proofs.YtpimbpfefhkojaaGreat.Wi
