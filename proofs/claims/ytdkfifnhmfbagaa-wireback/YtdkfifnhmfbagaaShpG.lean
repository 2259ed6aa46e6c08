/- Contracts: masks, where two nodes meet; the fixed answer that every statement asks first. -/
import Derived.Test.YtdkfifnhmfbagaaShpE
import Derived.Test.YtdkfifnhmfbagaaShpEq
import Derived.Test.YtdkfifnhmfbagaaShpMath2
namespace Go.Proofs.Ytdkfifnhmfbagaa.Sh
open Go.RowKit

end Go.Proofs.Ytdkfifnhmfbagaa.Sh
