/- Contracts: the document's Ahead; Gives and Compare of both. -/
import Derived.Test.YtpkfpckljpffgaaKeyA
import Derived.LoopTactic
namespace Go.Proofs.Ytpkfpckljpffgaa.Rt
open Go.RowKit

end Go.Proofs.Ytpkfpckljpffgaa.Rt
