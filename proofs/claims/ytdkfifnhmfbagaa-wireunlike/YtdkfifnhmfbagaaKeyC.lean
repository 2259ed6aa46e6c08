/- Contracts: Gives and Compare of both. -/
import Derived.Test.YtdkfifnhmfbagaaKeyA
namespace Go.Proofs.Ytdkfifnhmfbagaa.Rt
open Go.RowKit

def gv (b s c t : Int) : Bool := gd b s && (gd c t && (b == c && decide (s ≤ t)))
def cm (b s c t : Int) : Int := if b < c then -1 else if c < b then 1 else if s < t then -1 else if t < s then 1 else 0
end Go.Proofs.Ytdkfifnhmfbagaa.Rt
