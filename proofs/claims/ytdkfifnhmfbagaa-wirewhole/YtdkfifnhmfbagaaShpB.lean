/- Contracts: leaves and slots, levels; the document's children, parents and levels. -/
import Derived.Test.YtdkfifnhmfbagaaShpA
namespace Go.Proofs.Ytdkfifnhmfbagaa.Sh
open Go.RowKit

end Go.Proofs.Ytdkfifnhmfbagaa.Sh
