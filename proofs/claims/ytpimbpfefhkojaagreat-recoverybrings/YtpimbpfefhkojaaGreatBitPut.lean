/- Contract: Put of a writer. -/
import Derived.Test.YtpimbpfefhkojaaGreatBtJ1
import Derived.Deep.RegionWith
import Derived.Deep.DrawnRows
namespace Go.Proofs.YtpimbpfefhkojaaGreat.Bt
open Go.RowKit Go.Maps
set_option linter.unusedVariables false
attribute [local go_sem ↓] Go.wp_at_zero Go.wp_at_succ

end Go.Proofs.YtpimbpfefhkojaaGreat.Bt
