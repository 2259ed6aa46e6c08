/-
  DERIVED. GIVEN WITH THE SEED: THE CARDS: each row of YtoimkngkcliinaaGreatDoorRows.lean that lists a variable, with what it lists TIED to the program's text (the seventh form; the later family's looks); each row that meets fmt, with fmt's text TOLD by the authors' own Lean function (tested against real Go, not proved from fmt's source: count such statements apart). THE CARD IS WHAT COUNTS. Prove the row's statement (the work); the ties are given (YtoimkngkcliinaaGreatDoorTie.lean); close each card by the builder's one call (the guide's Derived/Test/ToyasCard.lean, 'card_holds'). Laid BY PROGRAM, IN A SANDBOX (cutbox-door.mjs). By AI agents, Wed Nov 11 2026. No macro, syntax, notation, axiom, sorry.
-/
import Derived.Test.YtoimkngkcliinaaGreatDoorRows
import GoSem.ClaimSeven
namespace Go.Proofs.YtoimkngkcliinaaGreatDoor
namespace Rows

/-- THE TIED CARD OF 'coterielaw18.ServerPlays'. -/
def serverPlaysCard : Claim7 := { stood := { row := serverPlaysRow, standIns := [], harness := (true, "97704a569ca64710118d3b07c5fd04513169fef8c2786dfae6f67621898f323d"), looks := true }, kinds := [], alts := [], laidByText := true, laidKinds := [.data, .data, .data, .handle], laidTests := true, laidLooks := .later }
def ServerPlaysCardSaid : Prop := Claim7.holds Tryz.pinned (.plain (OpenSpec.ofChange serverPlaysSpec)) serverPlaysCard

/-- THE TIED CARD OF 'coterielaw18.ServerHistory'. -/
def serverHistoryCard : Claim7 := { stood := { row := serverHistoryRow, standIns := [], harness := (true, "97704a569ca64710118d3b07c5fd04513169fef8c2786dfae6f67621898f323d"), looks := true }, kinds := [], alts := [], laidByText := true, laidKinds := [.data, .data, .data, .handle], laidTests := true, laidLooks := .later }
def ServerHistoryCardSaid : Prop := Claim7.holds Tryz.pinned (.plain (OpenSpec.ofChange serverHistorySpec)) serverHistoryCard

/-- THE TIED CARD OF 'coterielaw18.ServerAgain'. -/
def serverAgainCard : Claim7 := { stood := { row := serverAgainRow, standIns := [], harness := (true, "97704a569ca64710118d3b07c5fd04513169fef8c2786dfae6f67621898f323d"), looks := true }, kinds := [], alts := [], laidByText := true, laidKinds := [.data, .data, .data, .handle], laidTests := true, laidLooks := .later }
def ServerAgainCardSaid : Prop := Claim7.holds Tryz.pinned (.plain (OpenSpec.ofChange serverAgainSpec)) serverAgainCard

/-- THE TIED CARD OF 'coterielaw18.ServerServes'. -/
def serverServesCard : Claim7 := { stood := { row := serverServesRow, standIns := [], harness := (true, "97704a569ca64710118d3b07c5fd04513169fef8c2786dfae6f67621898f323d"), looks := true }, kinds := [], alts := [], laidByText := true, laidKinds := [.data, .data, .data, .handle], laidTests := true, laidLooks := .later }
def ServerServesCardSaid : Prop := Claim7.holds Tryz.pinned (.plain (OpenSpec.ofChange serverServesSpec)) serverServesCard

/-- THE TIED CARD OF 'coterietop.TopServerRow'. -/
def topServerRowCard : Claim7 := { stood := { row := topServerRowRow, standIns := [], harness := (true, "97704a569ca64710118d3b07c5fd04513169fef8c2786dfae6f67621898f323d"), looks := true }, kinds := [], alts := [], laidByText := true, laidKinds := [.data, .data, .data, .handle], laidTests := true, laidLooks := .later }
def TopServerRowCardSaid : Prop := Claim7.holds Tryz.pinned (.plain (OpenSpec.ofChange topServerRowSpec)) topServerRowCard

/-- THE SECOND FORM's CARD OF 'coterielaw18.ServerPlays'. -/
def serverPlaysUptoCard : Claim7 := { stood := { row := serverPlaysUptoRow, standIns := [], harness := (true, "97704a569ca64710118d3b07c5fd04513169fef8c2786dfae6f67621898f323d"), looks := true }, kinds := [], alts := [], laidByText := true, laidKinds := [.data, .data, .data, .handle], laidTests := true, laidLooks := .later }
def ServerPlaysUptoCardSaid : Prop := Claim7.holds Tryz.pinned (.plain (OpenSpec.upto serverPlaysSpec)) serverPlaysUptoCard

/-- THE SECOND FORM's CARD OF 'coterielaw18.ServerHistory'. -/
def serverHistoryUptoCard : Claim7 := { stood := { row := serverHistoryUptoRow, standIns := [], harness := (true, "97704a569ca64710118d3b07c5fd04513169fef8c2786dfae6f67621898f323d"), looks := true }, kinds := [], alts := [], laidByText := true, laidKinds := [.data, .data, .data, .handle], laidTests := true, laidLooks := .later }
def ServerHistoryUptoCardSaid : Prop := Claim7.holds Tryz.pinned (.plain (OpenSpec.upto serverHistorySpec)) serverHistoryUptoCard

/-- THE SECOND FORM's CARD OF 'coterielaw18.ServerAgain'. -/
def serverAgainUptoCard : Claim7 := { stood := { row := serverAgainUptoRow, standIns := [], harness := (true, "97704a569ca64710118d3b07c5fd04513169fef8c2786dfae6f67621898f323d"), looks := true }, kinds := [], alts := [], laidByText := true, laidKinds := [.data, .data, .data, .handle], laidTests := true, laidLooks := .later }
def ServerAgainUptoCardSaid : Prop := Claim7.holds Tryz.pinned (.plain (OpenSpec.upto serverAgainSpec)) serverAgainUptoCard

/-- THE SECOND FORM's CARD OF 'coterielaw18.ServerServes'. -/
def serverServesUptoCard : Claim7 := { stood := { row := serverServesUptoRow, standIns := [], harness := (true, "97704a569ca64710118d3b07c5fd04513169fef8c2786dfae6f67621898f323d"), looks := true }, kinds := [], alts := [], laidByText := true, laidKinds := [.data, .data, .data, .handle], laidTests := true, laidLooks := .later }
def ServerServesUptoCardSaid : Prop := Claim7.holds Tryz.pinned (.plain (OpenSpec.upto serverServesSpec)) serverServesUptoCard

/-- THE SECOND FORM's CARD OF 'coterietop.TopServerRow'. -/
def topServerRowUptoCard : Claim7 := { stood := { row := topServerRowUptoRow, standIns := [], harness := (true, "97704a569ca64710118d3b07c5fd04513169fef8c2786dfae6f67621898f323d"), looks := true }, kinds := [], alts := [], laidByText := true, laidKinds := [.data, .data, .data, .handle], laidTests := true, laidLooks := .later }
def TopServerRowUptoCardSaid : Prop := Claim7.holds Tryz.pinned (.plain (OpenSpec.upto topServerRowSpec)) topServerRowUptoCard
end Rows
end Go.Proofs.YtoimkngkcliinaaGreatDoor
