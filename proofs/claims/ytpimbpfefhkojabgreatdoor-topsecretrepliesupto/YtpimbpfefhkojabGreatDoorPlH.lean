/- Contracts: the document's Next; Cost. -/
import Derived.Test.YtpimbpfefhkojabGreatDoorPlG
namespace Go.Proofs.YtpimbpfefhkojabGreatDoor
open Go.RowKit Go.Maps Go.Great
open Rt (Ky zK kcs)
open Rs (En zE rcs tkn RdI RdS ps evl Tb)
set_option linter.unusedVariables false
set_option linter.unusedSimpArgs false

end Go.Proofs.YtpimbpfefhkojabGreatDoor
