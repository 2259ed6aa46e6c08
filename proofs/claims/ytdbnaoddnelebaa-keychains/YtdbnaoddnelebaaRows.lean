/-
  No cell of these rows narrows 'for every input' (looked for: loops, veiled, ifaces, maps, wideKeys, modest, calm, conditions, laid).
  DERIVED. THE GIVEN ROWS OF THIS SEAT. 6 by the template 'for every input the law returns true; each argument reads behind the call as it read before'; 0 by the template 'total and deterministic' (their statements: YtdbnaoddnelebaaTotals.lean).
  GIVEN WITH THE SEED: the statements are not yours to turn. If you find one false, say at which input.
  Laid BY PROGRAM, IN A SANDBOX (cutbox-rows.mjs): the forced cells as the released guide's own fill.sh prints them over the translation 2dea829723564709… (all of the seat's roots in one cut). By AI agents, Wed Nov 11 2026. No macro, syntax, notation, axiom, sorry.
-/
import Derived.Test.YtdbnaoddnelebaaChecked
import GoSem.Claim
import GoSem.ClaimJoined
import GoSem.ClaimMapViews
import Derived.JoinedTies
import Derived.KernelRfl
namespace Go.Proofs.Ytdbnaoddnelebaa
/- THE CELL 'sum', in the pinned program and in every row, IS THE sha256 OF THE DUMP (.gsa) THAT YtdbnaoddnelebaaProg.lean LOADS. Nothing in Lean hashes anything: it is a label: what it is worth is what the hold of that sum in a sandbox is worth. -/
noncomputable def Try.pinned : Pinned := { name := "ytdbnaoddnelebaa", sum := "2dea82972356470968d1270e18a759184727f13eae56ed1725b9404869c3de64", checked := Try.checked }
namespace Rows
def none {H : Type} : Left H := { results := [], args := [] }

/-- 'coterielaw02.KeyAheads': WHATEVER THE INPUT: true; the input reads as it did. -/
def keyAheadsSpec : ChangeSpec := { name := "keyAheads", fn := fun _ => fun
  | [d1, d2] => { results := [.lit (.bool true)], args := [d1, d2] }
  | _ => none }
def keyAheadsRow : OpenClaim := { program := "ytdbnaoddnelebaa", sum := "2dea82972356470968d1270e18a759184727f13eae56ed1725b9404869c3de64", func := "coterie/coterielaw02.KeyAheads", spec := "keyAheads", apart := false }
def KeyAheadsSaid : Prop := keyAheadsRow.holds Try.pinned (OpenSpec.ofChange keyAheadsSpec)

/-- ITS FALSE NEIGHBOUR: 'it returns false'. Refute it at one input. -/
def keyAheadsWrong : ChangeSpec := { name := "keyAheads", fn := fun _ => fun
  | [d1, d2] => { results := [.lit (.bool false)], args := [d1, d2] }
  | _ => none }
def KeyAheadsWrongFalsely : Prop := keyAheadsRow.holds Try.pinned (OpenSpec.ofChange keyAheadsWrong)

/-- 'coterielaw02.KeyGives': WHATEVER THE INPUT: true; the input reads as it did. -/
def keyGivesSpec : ChangeSpec := { name := "keyGives", fn := fun _ => fun
  | [d1, d2] => { results := [.lit (.bool true)], args := [d1, d2] }
  | _ => none }
def keyGivesRow : OpenClaim := { program := "ytdbnaoddnelebaa", sum := "2dea82972356470968d1270e18a759184727f13eae56ed1725b9404869c3de64", func := "coterie/coterielaw02.KeyGives", spec := "keyGives", apart := false }
def KeyGivesSaid : Prop := keyGivesRow.holds Try.pinned (OpenSpec.ofChange keyGivesSpec)

/-- ITS FALSE NEIGHBOUR: 'it returns false'. Refute it at one input. -/
def keyGivesWrong : ChangeSpec := { name := "keyGives", fn := fun _ => fun
  | [d1, d2] => { results := [.lit (.bool false)], args := [d1, d2] }
  | _ => none }
def KeyGivesWrongFalsely : Prop := keyGivesRow.holds Try.pinned (OpenSpec.ofChange keyGivesWrong)

/-- 'coterielaw02.KeyOrder': WHATEVER THE INPUT: true; the input reads as it did. -/
def keyOrderSpec : ChangeSpec := { name := "keyOrder", fn := fun _ => fun
  | [d1, d2, d3] => { results := [.lit (.bool true)], args := [d1, d2, d3] }
  | _ => none }
def keyOrderRow : OpenClaim := { program := "ytdbnaoddnelebaa", sum := "2dea82972356470968d1270e18a759184727f13eae56ed1725b9404869c3de64", func := "coterie/coterielaw02.KeyOrder", spec := "keyOrder", apart := false }
def KeyOrderSaid : Prop := keyOrderRow.holds Try.pinned (OpenSpec.ofChange keyOrderSpec)

/-- ITS FALSE NEIGHBOUR: 'it returns false'. Refute it at one input. -/
def keyOrderWrong : ChangeSpec := { name := "keyOrder", fn := fun _ => fun
  | [d1, d2, d3] => { results := [.lit (.bool false)], args := [d1, d2, d3] }
  | _ => none }
def KeyOrderWrongFalsely : Prop := keyOrderRow.holds Try.pinned (OpenSpec.ofChange keyOrderWrong)

/-- 'coterielaw02.KeyChains': WHATEVER THE INPUT: true; the input reads as it did. -/
def keyChainsSpec : ChangeSpec := { name := "keyChains", fn := fun _ => fun
  | [d1, d2, d3] => { results := [.lit (.bool true)], args := [d1, d2, d3] }
  | _ => none }
def keyChainsRow : OpenClaim := { program := "ytdbnaoddnelebaa", sum := "2dea82972356470968d1270e18a759184727f13eae56ed1725b9404869c3de64", func := "coterie/coterielaw02.KeyChains", spec := "keyChains", apart := false }
def KeyChainsSaid : Prop := keyChainsRow.holds Try.pinned (OpenSpec.ofChange keyChainsSpec)

/-- ITS FALSE NEIGHBOUR: 'it returns false'. Refute it at one input. -/
def keyChainsWrong : ChangeSpec := { name := "keyChains", fn := fun _ => fun
  | [d1, d2, d3] => { results := [.lit (.bool false)], args := [d1, d2, d3] }
  | _ => none }
def KeyChainsWrongFalsely : Prop := keyChainsRow.holds Try.pinned (OpenSpec.ofChange keyChainsWrong)

/-- 'coterielaw02.KeyPacks': WHATEVER THE INPUT: true; the input reads as it did. -/
def keyPacksSpec : ChangeSpec := { name := "keyPacks", fn := fun _ => fun
  | [d1, d2] => { results := [.lit (.bool true)], args := [d1, d2] }
  | _ => none }
def keyPacksRow : OpenClaim := { program := "ytdbnaoddnelebaa", sum := "2dea82972356470968d1270e18a759184727f13eae56ed1725b9404869c3de64", func := "coterie/coterielaw02.KeyPacks", spec := "keyPacks", apart := false }
def KeyPacksSaid : Prop := keyPacksRow.holds Try.pinned (OpenSpec.ofChange keyPacksSpec)

/-- ITS FALSE NEIGHBOUR: 'it returns false'. Refute it at one input. -/
def keyPacksWrong : ChangeSpec := { name := "keyPacks", fn := fun _ => fun
  | [d1, d2] => { results := [.lit (.bool false)], args := [d1, d2] }
  | _ => none }
def KeyPacksWrongFalsely : Prop := keyPacksRow.holds Try.pinned (OpenSpec.ofChange keyPacksWrong)

/-- 'coterielaw02.KeyWords': WHATEVER THE INPUT: true; the input reads as it did. -/
def keyWordsSpec : ChangeSpec := { name := "keyWords", fn := fun _ => fun
  | [d1, d2] => { results := [.lit (.bool true)], args := [d1, d2] }
  | _ => none }
def keyWordsRow : OpenClaim := { program := "ytdbnaoddnelebaa", sum := "2dea82972356470968d1270e18a759184727f13eae56ed1725b9404869c3de64", func := "coterie/coterielaw02.KeyWords", spec := "keyWords", apart := false }
def KeyWordsSaid : Prop := keyWordsRow.holds Try.pinned (OpenSpec.ofChange keyWordsSpec)

/-- ITS FALSE NEIGHBOUR: 'it returns false'. Refute it at one input. -/
def keyWordsWrong : ChangeSpec := { name := "keyWords", fn := fun _ => fun
  | [d1, d2] => { results := [.lit (.bool false)], args := [d1, d2] }
  | _ => none }
def KeyWordsWrongFalsely : Prop := keyWordsRow.holds Try.pinned (OpenSpec.ofChange keyWordsWrong)

/- THE SECOND FORM. 'bulk': how many values and letters a reading holds, each counted each time it is reached (what is shared counts as often as it is met; a slice's spare places count too). A statement '..UptoSaid' is the law's where the arguments, and the package variables that the reading takes, are together of bulk at most 1048576: NARROWER than '..Said'. Prove '..Said' where nothing that the law and all that it calls make is longer than what came in: it says more and counts as full. Else prove '..UptoSaid'. A law counts once. -/
mutual
def uptoBulk {H : Type} : DataW H → Nat
  | .lit (.string bytes) => bytes.length + 1
  | .lit _ => 1
  | .nil => 1
  | .ptr d => uptoBulk d + 1
  | .slice elems spare => uptoBulkAll elems + uptoBulkAll spare + 1
  | .agg parts => uptoBulkAll parts + 1
  | .iface _ d => uptoBulk d + 1
  | .map entries => uptoBulkEntries entries + 1
  | .held _ => 1
def uptoBulkAll {H : Type} : List (DataW H) → Nat
  | [] => 0
  | d :: r => uptoBulk d + uptoBulkAll r
def uptoBulkEntries {H : Type} : List (Lit × DataW H) → Nat
  | [] => 0
  | x :: r => uptoBulkEntry x + uptoBulkEntries r
def uptoBulkEntry {H : Type} : Lit × DataW H → Nat
  | (.string bytes, d) => bytes.length + uptoBulk d + 1
  | (_, d) => uptoBulk d + 1
 end
def uptoSmall : (H : Type) → List (DataW H) → Bool := fun _ ds => decide (uptoBulkAll ds ≤ 1048576)
def OpenSpec.upto (s : _root_.Go.ChangeSpec) : _root_.Go.OpenSpec := { _root_.Go.OpenSpec.ofChange s with cond := some uptoSmall }

/-- 'coterielaw02.KeyAheads', WHERE WHAT IT READS IS OF BULK AT MOST 1048576: true; the input reads as it did. -/
def keyAheadsUptoRow : OpenClaim := { program := "ytdbnaoddnelebaa", sum := "2dea82972356470968d1270e18a759184727f13eae56ed1725b9404869c3de64", func := "coterie/coterielaw02.KeyAheads", spec := "keyAheads", apart := false, narrowed := true }
def KeyAheadsUptoSaid : Prop := keyAheadsUptoRow.holds Try.pinned (OpenSpec.upto keyAheadsSpec)

/-- 'coterielaw02.KeyGives', WHERE WHAT IT READS IS OF BULK AT MOST 1048576: true; the input reads as it did. -/
def keyGivesUptoRow : OpenClaim := { program := "ytdbnaoddnelebaa", sum := "2dea82972356470968d1270e18a759184727f13eae56ed1725b9404869c3de64", func := "coterie/coterielaw02.KeyGives", spec := "keyGives", apart := false, narrowed := true }
def KeyGivesUptoSaid : Prop := keyGivesUptoRow.holds Try.pinned (OpenSpec.upto keyGivesSpec)

/-- 'coterielaw02.KeyOrder', WHERE WHAT IT READS IS OF BULK AT MOST 1048576: true; the input reads as it did. -/
def keyOrderUptoRow : OpenClaim := { program := "ytdbnaoddnelebaa", sum := "2dea82972356470968d1270e18a759184727f13eae56ed1725b9404869c3de64", func := "coterie/coterielaw02.KeyOrder", spec := "keyOrder", apart := false, narrowed := true }
def KeyOrderUptoSaid : Prop := keyOrderUptoRow.holds Try.pinned (OpenSpec.upto keyOrderSpec)

/-- 'coterielaw02.KeyChains', WHERE WHAT IT READS IS OF BULK AT MOST 1048576: true; the input reads as it did. -/
def keyChainsUptoRow : OpenClaim := { program := "ytdbnaoddnelebaa", sum := "2dea82972356470968d1270e18a759184727f13eae56ed1725b9404869c3de64", func := "coterie/coterielaw02.KeyChains", spec := "keyChains", apart := false, narrowed := true }
def KeyChainsUptoSaid : Prop := keyChainsUptoRow.holds Try.pinned (OpenSpec.upto keyChainsSpec)

/-- 'coterielaw02.KeyPacks', WHERE WHAT IT READS IS OF BULK AT MOST 1048576: true; the input reads as it did. -/
def keyPacksUptoRow : OpenClaim := { program := "ytdbnaoddnelebaa", sum := "2dea82972356470968d1270e18a759184727f13eae56ed1725b9404869c3de64", func := "coterie/coterielaw02.KeyPacks", spec := "keyPacks", apart := false, narrowed := true }
def KeyPacksUptoSaid : Prop := keyPacksUptoRow.holds Try.pinned (OpenSpec.upto keyPacksSpec)

/-- 'coterielaw02.KeyWords', WHERE WHAT IT READS IS OF BULK AT MOST 1048576: true; the input reads as it did. -/
def keyWordsUptoRow : OpenClaim := { program := "ytdbnaoddnelebaa", sum := "2dea82972356470968d1270e18a759184727f13eae56ed1725b9404869c3de64", func := "coterie/coterielaw02.KeyWords", spec := "keyWords", apart := false, narrowed := true }
def KeyWordsUptoSaid : Prop := keyWordsUptoRow.holds Try.pinned (OpenSpec.upto keyWordsSpec)

end Rows
end Go.Proofs.Ytdbnaoddnelebaa
