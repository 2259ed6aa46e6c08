/-
  DERIVED. GIVEN WITH THE SEED: THE CARDS: each row of YtedbnamekfgmhaaDoorRows.lean that lists a variable, with what it lists TIED to the program's text (the seventh form; the later family's looks); each row that meets fmt, with fmt's text TOLD by the authors' own Lean function (tested against real Go, not proved from fmt's source: count such statements apart). THE CARD IS WHAT COUNTS. Prove the row's statement (the work); the ties are given (YtedbnamekfgmhaaDoorTie.lean); close each card by the builder's one call (the guide's Derived/Test/ToyasCard.lean, 'card_holds'). Laid BY PROGRAM, IN A SANDBOX (cutbox-door.mjs). By AI agents, Wed Nov 11 2026. No macro, syntax, notation, axiom, sorry.
-/
import Derived.Test.YtedbnamekfgmhaaDoorRows
import GoSem.ClaimSeven
namespace Go.Proofs.YtedbnamekfgmhaaDoor
namespace Rows

/-- THE TIED CARD OF 'coterielaw12.PlanSteps'. -/
def planStepsCard : Claim7 := { stood := { row := planStepsRow, standIns := [], harness := (true, "5866f78ceaad221fafed5018944bbd273d2f86e729eb6fa2bac5d7e069f79f87"), looks := false }, kinds := [], alts := [], laidByText := true, laidKinds := [.data], laidTests := true, laidLooks := .later }
def PlanStepsCardSaid : Prop := Claim7.holds Tryd.pinned (.plain (OpenSpec.ofChange planStepsSpec)) planStepsCard

/-- THE TIED CARD OF 'coterielaw12.PlanReplaced'. -/
def planReplacedCard : Claim7 := { stood := { row := planReplacedRow, standIns := [], harness := (true, "5866f78ceaad221fafed5018944bbd273d2f86e729eb6fa2bac5d7e069f79f87"), looks := false }, kinds := [], alts := [], laidByText := true, laidKinds := [.data], laidTests := true, laidLooks := .later }
def PlanReplacedCardSaid : Prop := Claim7.holds Tryd.pinned (.plain (OpenSpec.ofChange planReplacedSpec)) planReplacedCard

/-- THE TIED CARD OF 'coterielaw12.PlanCosts'. -/
def planCostsCard : Claim7 := { stood := { row := planCostsRow, standIns := [], harness := (true, "5866f78ceaad221fafed5018944bbd273d2f86e729eb6fa2bac5d7e069f79f87"), looks := false }, kinds := [], alts := [], laidByText := true, laidKinds := [.data], laidTests := true, laidLooks := .later }
def PlanCostsCardSaid : Prop := Claim7.holds Tryd.pinned (.plain (OpenSpec.ofChange planCostsSpec)) planCostsCard

/-- THE TIED CARD OF 'coterielaw12.PlanHeard'. -/
def planHeardCard : Claim7 := { stood := { row := planHeardRow, standIns := [], harness := (true, "5866f78ceaad221fafed5018944bbd273d2f86e729eb6fa2bac5d7e069f79f87"), looks := false }, kinds := [], alts := [], laidByText := true, laidKinds := [.data], laidTests := true, laidLooks := .later }
def PlanHeardCardSaid : Prop := Claim7.holds Tryd.pinned (.plain (OpenSpec.ofChange planHeardSpec)) planHeardCard

/-- THE TIED CARD OF 'coterielaw12.PlanForward'. -/
def planForwardCard : Claim7 := { stood := { row := planForwardRow, standIns := [], harness := (true, "5866f78ceaad221fafed5018944bbd273d2f86e729eb6fa2bac5d7e069f79f87"), looks := false }, kinds := [], alts := [], laidByText := true, laidKinds := [.data], laidTests := true, laidLooks := .later }
def PlanForwardCardSaid : Prop := Claim7.holds Tryd.pinned (.plain (OpenSpec.ofChange planForwardSpec)) planForwardCard

/-- THE TIED CARD OF 'coterielaw12.PlanBackward'. -/
def planBackwardCard : Claim7 := { stood := { row := planBackwardRow, standIns := [], harness := (true, "5866f78ceaad221fafed5018944bbd273d2f86e729eb6fa2bac5d7e069f79f87"), looks := false }, kinds := [], alts := [], laidByText := true, laidKinds := [.data], laidTests := true, laidLooks := .later }
def PlanBackwardCardSaid : Prop := Claim7.holds Tryd.pinned (.plain (OpenSpec.ofChange planBackwardSpec)) planBackwardCard

/-- THE SECOND FORM's CARD OF 'coterielaw12.PlanSteps'. -/
def planStepsUptoCard : Claim7 := { stood := { row := planStepsUptoRow, standIns := [], harness := (true, "5866f78ceaad221fafed5018944bbd273d2f86e729eb6fa2bac5d7e069f79f87"), looks := false }, kinds := [], alts := [], laidByText := true, laidKinds := [.data], laidTests := true, laidLooks := .later }
def PlanStepsUptoCardSaid : Prop := Claim7.holds Tryd.pinned (.plain (OpenSpec.upto planStepsSpec)) planStepsUptoCard

/-- THE SECOND FORM's CARD OF 'coterielaw12.PlanReplaced'. -/
def planReplacedUptoCard : Claim7 := { stood := { row := planReplacedUptoRow, standIns := [], harness := (true, "5866f78ceaad221fafed5018944bbd273d2f86e729eb6fa2bac5d7e069f79f87"), looks := false }, kinds := [], alts := [], laidByText := true, laidKinds := [.data], laidTests := true, laidLooks := .later }
def PlanReplacedUptoCardSaid : Prop := Claim7.holds Tryd.pinned (.plain (OpenSpec.upto planReplacedSpec)) planReplacedUptoCard

/-- THE SECOND FORM's CARD OF 'coterielaw12.PlanCosts'. -/
def planCostsUptoCard : Claim7 := { stood := { row := planCostsUptoRow, standIns := [], harness := (true, "5866f78ceaad221fafed5018944bbd273d2f86e729eb6fa2bac5d7e069f79f87"), looks := false }, kinds := [], alts := [], laidByText := true, laidKinds := [.data], laidTests := true, laidLooks := .later }
def PlanCostsUptoCardSaid : Prop := Claim7.holds Tryd.pinned (.plain (OpenSpec.upto planCostsSpec)) planCostsUptoCard

/-- THE SECOND FORM's CARD OF 'coterielaw12.PlanHeard'. -/
def planHeardUptoCard : Claim7 := { stood := { row := planHeardUptoRow, standIns := [], harness := (true, "5866f78ceaad221fafed5018944bbd273d2f86e729eb6fa2bac5d7e069f79f87"), looks := false }, kinds := [], alts := [], laidByText := true, laidKinds := [.data], laidTests := true, laidLooks := .later }
def PlanHeardUptoCardSaid : Prop := Claim7.holds Tryd.pinned (.plain (OpenSpec.upto planHeardSpec)) planHeardUptoCard

/-- THE SECOND FORM's CARD OF 'coterielaw12.PlanForward'. -/
def planForwardUptoCard : Claim7 := { stood := { row := planForwardUptoRow, standIns := [], harness := (true, "5866f78ceaad221fafed5018944bbd273d2f86e729eb6fa2bac5d7e069f79f87"), looks := false }, kinds := [], alts := [], laidByText := true, laidKinds := [.data], laidTests := true, laidLooks := .later }
def PlanForwardUptoCardSaid : Prop := Claim7.holds Tryd.pinned (.plain (OpenSpec.upto planForwardSpec)) planForwardUptoCard

/-- THE SECOND FORM's CARD OF 'coterielaw12.PlanBackward'. -/
def planBackwardUptoCard : Claim7 := { stood := { row := planBackwardUptoRow, standIns := [], harness := (true, "5866f78ceaad221fafed5018944bbd273d2f86e729eb6fa2bac5d7e069f79f87"), looks := false }, kinds := [], alts := [], laidByText := true, laidKinds := [.data], laidTests := true, laidLooks := .later }
def PlanBackwardUptoCardSaid : Prop := Claim7.holds Tryd.pinned (.plain (OpenSpec.upto planBackwardSpec)) planBackwardUptoCard
end Rows
end Go.Proofs.YtedbnamekfgmhaaDoor
