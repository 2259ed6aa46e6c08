/-
  DERIVED. GIVEN WITH THE SEED: THE CARDS: each row of YteocfmimgoocnaaGreatDoorRows.lean that lists a variable, with what it lists TIED to the program's text (the seventh form; the later family's looks); each row that meets fmt, with fmt's text TOLD by the authors' own Lean function (tested against real Go, not proved from fmt's source: count such statements apart). THE CARD IS WHAT COUNTS. Prove the row's statement (the work); the ties are given (YteocfmimgoocnaaGreatDoorTie.lean); close each card by the builder's one call (the guide's Derived/Test/ToyasCard.lean, 'card_holds'). Laid BY PROGRAM, IN A SANDBOX (cutbox-door.mjs). By AI agents, Wed Nov 11 2026. No macro, syntax, notation, axiom, sorry.
-/
import Derived.Test.YteocfmimgoocnaaGreatDoorRows
import GoSem.ClaimSeven
namespace Go.Proofs.YteocfmimgoocnaaGreatDoor
namespace Rows

/-- THE TIED CARD OF 'coterielaw13.RecordOf'. -/
def recordOfCard : Claim7 := { stood := { row := recordOfRow, standIns := [], harness := (true, "33b8ac5c129bdcdca8fbf26acdf80c1098cbd13a4d208d90c87ffb5f15076a33"), looks := false }, kinds := [], alts := [], laidByText := true, laidKinds := [.data], laidTests := true, laidLooks := .later }
def RecordOfCardSaid : Prop := Claim7.holds Tryz.pinned (.plain (OpenSpec.ofChange recordOfSpec)) recordOfCard

/-- THE TIED CARD OF 'coterielaw13.RecordPlays'. -/
def recordPlaysCard : Claim7 := { stood := { row := recordPlaysRow, standIns := [], harness := (true, "33b8ac5c129bdcdca8fbf26acdf80c1098cbd13a4d208d90c87ffb5f15076a33"), looks := false }, kinds := [], alts := [], laidByText := true, laidKinds := [.data], laidTests := true, laidLooks := .later }
def RecordPlaysCardSaid : Prop := Claim7.holds Tryz.pinned (.plain (OpenSpec.ofChange recordPlaysSpec)) recordPlaysCard

/-- THE TIED CARD OF 'coterielaw13.RecordRuns'. -/
def recordRunsCard : Claim7 := { stood := { row := recordRunsRow, standIns := [], harness := (true, "33b8ac5c129bdcdca8fbf26acdf80c1098cbd13a4d208d90c87ffb5f15076a33"), looks := false }, kinds := [], alts := [], laidByText := true, laidKinds := [.data], laidTests := true, laidLooks := .later }
def RecordRunsCardSaid : Prop := Claim7.holds Tryz.pinned (.plain (OpenSpec.ofChange recordRunsSpec)) recordRunsCard

/-- THE TIED CARD OF 'coterielaw13.RecordMemory'. -/
def recordMemoryCard : Claim7 := { stood := { row := recordMemoryRow, standIns := [], harness := (true, "33b8ac5c129bdcdca8fbf26acdf80c1098cbd13a4d208d90c87ffb5f15076a33"), looks := false }, kinds := [], alts := [], laidByText := true, laidKinds := [.data], laidTests := true, laidLooks := .later }
def RecordMemoryCardSaid : Prop := Claim7.holds Tryz.pinned (.plain (OpenSpec.ofChange recordMemorySpec)) recordMemoryCard

/-- THE SECOND FORM's CARD OF 'coterielaw13.RecordOf'. -/
def recordOfUptoCard : Claim7 := { stood := { row := recordOfUptoRow, standIns := [], harness := (true, "33b8ac5c129bdcdca8fbf26acdf80c1098cbd13a4d208d90c87ffb5f15076a33"), looks := false }, kinds := [], alts := [], laidByText := true, laidKinds := [.data], laidTests := true, laidLooks := .later }
def RecordOfUptoCardSaid : Prop := Claim7.holds Tryz.pinned (.plain (OpenSpec.upto recordOfSpec)) recordOfUptoCard

/-- THE SECOND FORM's CARD OF 'coterielaw13.RecordPlays'. -/
def recordPlaysUptoCard : Claim7 := { stood := { row := recordPlaysUptoRow, standIns := [], harness := (true, "33b8ac5c129bdcdca8fbf26acdf80c1098cbd13a4d208d90c87ffb5f15076a33"), looks := false }, kinds := [], alts := [], laidByText := true, laidKinds := [.data], laidTests := true, laidLooks := .later }
def RecordPlaysUptoCardSaid : Prop := Claim7.holds Tryz.pinned (.plain (OpenSpec.upto recordPlaysSpec)) recordPlaysUptoCard

/-- THE SECOND FORM's CARD OF 'coterielaw13.RecordRuns'. -/
def recordRunsUptoCard : Claim7 := { stood := { row := recordRunsUptoRow, standIns := [], harness := (true, "33b8ac5c129bdcdca8fbf26acdf80c1098cbd13a4d208d90c87ffb5f15076a33"), looks := false }, kinds := [], alts := [], laidByText := true, laidKinds := [.data], laidTests := true, laidLooks := .later }
def RecordRunsUptoCardSaid : Prop := Claim7.holds Tryz.pinned (.plain (OpenSpec.upto recordRunsSpec)) recordRunsUptoCard

/-- THE SECOND FORM's CARD OF 'coterielaw13.RecordMemory'. -/
def recordMemoryUptoCard : Claim7 := { stood := { row := recordMemoryUptoRow, standIns := [], harness := (true, "33b8ac5c129bdcdca8fbf26acdf80c1098cbd13a4d208d90c87ffb5f15076a33"), looks := false }, kinds := [], alts := [], laidByText := true, laidKinds := [.data], laidTests := true, laidLooks := .later }
def RecordMemoryUptoCardSaid : Prop := Claim7.holds Tryz.pinned (.plain (OpenSpec.upto recordMemorySpec)) recordMemoryUptoCard
end Rows
end Go.Proofs.YteocfmimgoocnaaGreatDoor
