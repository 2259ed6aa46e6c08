/-
  DERIVED. GIVEN WITH THE SEED: THE CARDS: each row of YtedbnamekfgmhabDoorRows.lean that lists a variable, with what it lists TIED to the program's text (the seventh form; the later family's looks); each row that meets fmt, with fmt's text TOLD by the authors' own Lean function (tested against real Go, not proved from fmt's source: count such statements apart). THE CARD IS WHAT COUNTS. Prove the row's statement (the work); the ties are given (YtedbnamekfgmhabDoorTie.lean); close each card by the builder's one call (the guide's Derived/Test/ToyasCard.lean, 'card_holds'). Laid BY PROGRAM, IN A SANDBOX (cutbox-door.mjs). By AI agents, Wed Nov 11 2026. No macro, syntax, notation, axiom, sorry.
-/
import Derived.Test.YtedbnamekfgmhabDoorRows
import GoSem.ClaimSeven
namespace Go.Proofs.YtedbnamekfgmhabDoor
namespace Rows

/-- THE TIED CARD OF 'coterielaw12.PlanFresh'. -/
def planFreshCard : Claim7 := { stood := { row := planFreshRow, standIns := [], harness := (true, "957488e9f103f7828c216b1d0db012abc06f04a90166ea65f12ecfaa204f93f2"), looks := false }, kinds := [], alts := [], laidByText := true, laidKinds := [.data], laidTests := true, laidLooks := .later }
def PlanFreshCardSaid : Prop := Claim7.holds Tryd.pinned (.plain (OpenSpec.ofChange planFreshSpec)) planFreshCard

/-- THE TIED CARD OF 'coterielaw12.PlanRefusals'. -/
def planRefusalsCard : Claim7 := { stood := { row := planRefusalsRow, standIns := [], harness := (true, "957488e9f103f7828c216b1d0db012abc06f04a90166ea65f12ecfaa204f93f2"), looks := false }, kinds := [], alts := [], laidByText := true, laidKinds := [.data], laidTests := true, laidLooks := .later }
def PlanRefusalsCardSaid : Prop := Claim7.holds Tryd.pinned (.plain (OpenSpec.ofChange planRefusalsSpec)) planRefusalsCard

/-- THE TIED CARD OF 'coterielaw12.PlanMemory'. -/
def planMemoryCard : Claim7 := { stood := { row := planMemoryRow, standIns := [], harness := (true, "957488e9f103f7828c216b1d0db012abc06f04a90166ea65f12ecfaa204f93f2"), looks := false }, kinds := [], alts := [], laidByText := true, laidKinds := [.data], laidTests := true, laidLooks := .later }
def PlanMemoryCardSaid : Prop := Claim7.holds Tryd.pinned (.plain (OpenSpec.ofChange planMemorySpec)) planMemoryCard

/-- THE TIED CARD OF 'coterietop.TopSecretRow'. -/
def topSecretRowCard : Claim7 := { stood := { row := topSecretRowRow, standIns := [], harness := (true, "957488e9f103f7828c216b1d0db012abc06f04a90166ea65f12ecfaa204f93f2"), looks := false }, kinds := [], alts := [], laidByText := true, laidKinds := [.data], laidTests := true, laidLooks := .later }
def TopSecretRowCardSaid : Prop := Claim7.holds Tryd.pinned (.plain (OpenSpec.ofChange topSecretRowSpec)) topSecretRowCard

/-- THE TIED CARD OF 'coterietop.TopGivenRow'. -/
def topGivenRowCard : Claim7 := { stood := { row := topGivenRowRow, standIns := [], harness := (true, "957488e9f103f7828c216b1d0db012abc06f04a90166ea65f12ecfaa204f93f2"), looks := false }, kinds := [], alts := [], laidByText := true, laidKinds := [.data], laidTests := true, laidLooks := .later }
def TopGivenRowCardSaid : Prop := Claim7.holds Tryd.pinned (.plain (OpenSpec.ofChange topGivenRowSpec)) topGivenRowCard

/-- THE SECOND FORM's CARD OF 'coterielaw12.PlanFresh'. -/
def planFreshUptoCard : Claim7 := { stood := { row := planFreshUptoRow, standIns := [], harness := (true, "957488e9f103f7828c216b1d0db012abc06f04a90166ea65f12ecfaa204f93f2"), looks := false }, kinds := [], alts := [], laidByText := true, laidKinds := [.data], laidTests := true, laidLooks := .later }
def PlanFreshUptoCardSaid : Prop := Claim7.holds Tryd.pinned (.plain (OpenSpec.upto planFreshSpec)) planFreshUptoCard

/-- THE SECOND FORM's CARD OF 'coterielaw12.PlanRefusals'. -/
def planRefusalsUptoCard : Claim7 := { stood := { row := planRefusalsUptoRow, standIns := [], harness := (true, "957488e9f103f7828c216b1d0db012abc06f04a90166ea65f12ecfaa204f93f2"), looks := false }, kinds := [], alts := [], laidByText := true, laidKinds := [.data], laidTests := true, laidLooks := .later }
def PlanRefusalsUptoCardSaid : Prop := Claim7.holds Tryd.pinned (.plain (OpenSpec.upto planRefusalsSpec)) planRefusalsUptoCard

/-- THE SECOND FORM's CARD OF 'coterielaw12.PlanMemory'. -/
def planMemoryUptoCard : Claim7 := { stood := { row := planMemoryUptoRow, standIns := [], harness := (true, "957488e9f103f7828c216b1d0db012abc06f04a90166ea65f12ecfaa204f93f2"), looks := false }, kinds := [], alts := [], laidByText := true, laidKinds := [.data], laidTests := true, laidLooks := .later }
def PlanMemoryUptoCardSaid : Prop := Claim7.holds Tryd.pinned (.plain (OpenSpec.upto planMemorySpec)) planMemoryUptoCard

/-- THE SECOND FORM's CARD OF 'coterietop.TopSecretRow'. -/
def topSecretRowUptoCard : Claim7 := { stood := { row := topSecretRowUptoRow, standIns := [], harness := (true, "957488e9f103f7828c216b1d0db012abc06f04a90166ea65f12ecfaa204f93f2"), looks := false }, kinds := [], alts := [], laidByText := true, laidKinds := [.data], laidTests := true, laidLooks := .later }
def TopSecretRowUptoCardSaid : Prop := Claim7.holds Tryd.pinned (.plain (OpenSpec.upto topSecretRowSpec)) topSecretRowUptoCard

/-- THE SECOND FORM's CARD OF 'coterietop.TopGivenRow'. -/
def topGivenRowUptoCard : Claim7 := { stood := { row := topGivenRowUptoRow, standIns := [], harness := (true, "957488e9f103f7828c216b1d0db012abc06f04a90166ea65f12ecfaa204f93f2"), looks := false }, kinds := [], alts := [], laidByText := true, laidKinds := [.data], laidTests := true, laidLooks := .later }
def TopGivenRowUptoCardSaid : Prop := Claim7.holds Tryd.pinned (.plain (OpenSpec.upto topGivenRowSpec)) topGivenRowUptoCard
end Rows
end Go.Proofs.YtedbnamekfgmhabDoor
