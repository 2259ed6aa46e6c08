/-
  DERIVED. GIVEN WITH THE SEED: THE CARDS: each row of YtpimbpfefhkojabGreatDoorRows.lean that lists a variable, with what it lists TIED to the program's text (the seventh form; the later family's looks); each row that meets fmt, with fmt's text TOLD by the authors' own Lean function (tested against real Go, not proved from fmt's source: count such statements apart). THE CARD IS WHAT COUNTS. Prove the row's statement (the work); the ties are given (YtpimbpfefhkojabGreatDoorTie.lean); close each card by the builder's one call (the guide's Derived/Test/ToyasCard.lean, 'card_holds'). Laid BY PROGRAM, IN A SANDBOX (cutbox-door.mjs). By AI agents, Wed Nov 11 2026. No macro, syntax, notation, axiom, sorry.
-/
import Derived.Test.YtpimbpfefhkojabGreatDoorRows
import GoSem.ClaimSeven
namespace Go.Proofs.YtpimbpfefhkojabGreatDoor
namespace Rows

/-- THE TIED CARD OF 'coterietop.TopSecretReplies'. -/
def topSecretRepliesCard : Claim7 := { stood := { row := topSecretRepliesRow, standIns := [], harness := (true, "9300bb26c1f1235c7516d5204aba8ba53a68ebe58aa8720986b3ea129f578233"), looks := false }, kinds := [], alts := [], laidByText := true, laidKinds := [.data], laidTests := true, laidLooks := .later }
def TopSecretRepliesCardSaid : Prop := Claim7.holds Tryz.pinned (.plain (OpenSpec.ofChange topSecretRepliesSpec)) topSecretRepliesCard

/-- THE SECOND FORM's CARD OF 'coterietop.TopSecretReplies'. -/
def topSecretRepliesUptoCard : Claim7 := { stood := { row := topSecretRepliesUptoRow, standIns := [], harness := (true, "9300bb26c1f1235c7516d5204aba8ba53a68ebe58aa8720986b3ea129f578233"), looks := false }, kinds := [], alts := [], laidByText := true, laidKinds := [.data], laidTests := true, laidLooks := .later }
def TopSecretRepliesUptoCardSaid : Prop := Claim7.holds Tryz.pinned (.plain (OpenSpec.upto topSecretRepliesSpec)) topSecretRepliesUptoCard
end Rows
end Go.Proofs.YtpimbpfefhkojabGreatDoor
