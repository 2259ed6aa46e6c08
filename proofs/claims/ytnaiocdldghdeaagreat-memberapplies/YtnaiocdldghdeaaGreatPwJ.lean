/- PwB0, PwM, joined. -/
import Derived.Test.YtnaiocdldghdeaaGreatPlJ1
import Derived.Test.YtnaiocdldghdeaaGreatWiJ0
/- A step's message on plain data (out of PwB). -/
namespace Go.Proofs.YtnaiocdldghdeaaGreat
open Rs (evl)
set_option linter.unusedVariables false

end Go.Proofs.YtnaiocdldghdeaaGreat
/- A step's message, on plain data, is right for the wire. -/
namespace Go.Proofs.YtnaiocdldghdeaaGreat
open Go.RowKit
open Rt (Ky zK gd)
open Rs (En zE rcs tkn fnd evl adl wok)
open Sh (belB)
set_option linter.unusedVariables false
set_option linter.unusedSimpArgs false

def itP (x : It) : (Int × Int) × ((Int × Int) × (Int × Int)) := ((x.nd, x.fm), ((x.un.bas, x.un.stp), (x.ld.bas, x.ld.stp)))
end Go.Proofs.YtnaiocdldghdeaaGreat
