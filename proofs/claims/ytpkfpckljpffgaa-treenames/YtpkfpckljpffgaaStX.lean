/- Of StF alone what a seat without Take wants. -/
import Derived.Test.YtpkfpckljpffgaaStA
import Derived.BigQuiet
import Derived.WalkSmall
namespace Go.Proofs.Ytpkfpckljpffgaa.Rs
open Go.RowKit
theorem drewN_below (W : World) (k : Nat) : Below W.heap.size W (W.drewN k) := below_drewN (Below.refl _ _) _
end Go.Proofs.Ytpkfpckljpffgaa.Rs
