/-
  DERIVED. GIVEN WITH THE SEED: THE CARDS: each row of YtieagbjempndnabDoorRows.lean that lists a variable, with what it lists TIED to the program's text (the seventh form; the later family's looks); each row that meets fmt, with fmt's text TOLD by the authors' own Lean function (tested against real Go, not proved from fmt's source: count such statements apart). THE CARD IS WHAT COUNTS. Prove the row's statement (the work); the ties are given (YtieagbjempndnabDoorTie.lean); close each card by the builder's one call (the guide's Derived/Test/ToyasCard.lean, 'card_holds'). Laid BY PROGRAM, IN A SANDBOX (cutbox-door.mjs). By AI agents, Wed Nov 11 2026. No macro, syntax, notation, axiom, sorry.
-/
import Derived.Test.YtieagbjempndnabDoorRows
import GoSem.ClaimSeven
namespace Go.Proofs.YtieagbjempndnabDoor
namespace Rows

/-- THE TIED CARD OF 'coterielaw09.RosterMemory'. -/
def rosterMemoryCard : Claim7 := { stood := { row := rosterMemoryRow, standIns := [], harness := (true, "b53c45cc2f358b77ec07f7339922f9c0d0b3cacf026382ea2a4a0cb762ecedd5"), looks := false }, kinds := [], alts := [], laidByText := true, laidKinds := [.data], laidTests := true, laidLooks := .later }
def RosterMemoryCardSaid : Prop := Claim7.holds Tryd.pinned (.plain (OpenSpec.ofChange rosterMemorySpec)) rosterMemoryCard

/-- THE SECOND FORM's CARD OF 'coterielaw09.RosterMemory'. -/
def rosterMemoryUptoCard : Claim7 := { stood := { row := rosterMemoryUptoRow, standIns := [], harness := (true, "b53c45cc2f358b77ec07f7339922f9c0d0b3cacf026382ea2a4a0cb762ecedd5"), looks := false }, kinds := [], alts := [], laidByText := true, laidKinds := [.data], laidTests := true, laidLooks := .later }
def RosterMemoryUptoCardSaid : Prop := Claim7.holds Tryd.pinned (.plain (OpenSpec.upto rosterMemorySpec)) rosterMemoryUptoCard
end Rows
end Go.Proofs.YtieagbjempndnabDoor
