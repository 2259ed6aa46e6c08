/-
  DERIVED. GIVEN WITH THE SEED: THE CARDS: each row of YtanaapfobpgibaaGreatDoorRows.lean that lists a variable, with what it lists TIED to the program's text (the seventh form; the later family's looks); each row that meets fmt, with fmt's text TOLD by the authors' own Lean function (tested against real Go, not proved from fmt's source: count such statements apart). THE CARD IS WHAT COUNTS. Prove the row's statement (the work); the ties are given (YtanaapfobpgibaaGreatDoorTie.lean); close each card by the builder's one call (the guide's Derived/Test/ToyasCard.lean, 'card_holds'). Laid BY PROGRAM, IN A SANDBOX (cutbox-door.mjs). By AI agents, Wed Nov 11 2026. No macro, syntax, notation, axiom, sorry.
-/
import Derived.Test.YtanaapfobpgibaaGreatDoorRows
import GoSem.ClaimSeven
namespace Go.Proofs.YtanaapfobpgibaaGreatDoor
namespace Rows

/-- THE TIED CARD OF 'coterielaw18.ServerHistory'. -/
def serverHistoryCard : Claim7 := { stood := { row := serverHistoryRow, standIns := [], harness := (true, "1814933ad1ae01ed3c92a60b837c087dbb79dd24f2b0d8e3759dcd12806bc662"), looks := true }, kinds := [], alts := [], laidByText := true, laidKinds := [.data, .data, .data, .handle], laidTests := true, laidLooks := .later }
def ServerHistoryCardSaid : Prop := Claim7.holds Tryz.pinned (.plain (OpenSpec.ofChange serverHistorySpec)) serverHistoryCard

/-- THE SECOND FORM's CARD OF 'coterielaw18.ServerHistory'. -/
def serverHistoryUptoCard : Claim7 := { stood := { row := serverHistoryUptoRow, standIns := [], harness := (true, "1814933ad1ae01ed3c92a60b837c087dbb79dd24f2b0d8e3759dcd12806bc662"), looks := true }, kinds := [], alts := [], laidByText := true, laidKinds := [.data, .data, .data, .handle], laidTests := true, laidLooks := .later }
def ServerHistoryUptoCardSaid : Prop := Claim7.holds Tryz.pinned (.plain (OpenSpec.upto serverHistorySpec)) serverHistoryUptoCard
end Rows
end Go.Proofs.YtanaapfobpgibaaGreatDoor
