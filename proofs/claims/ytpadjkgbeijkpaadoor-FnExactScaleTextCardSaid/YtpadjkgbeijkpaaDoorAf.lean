/- WALKS: fractions that are looked at, of the program and of the reference. -/
import Derived.Test.YtpadjkgbeijkpaaDoorSka
import Derived.Test.YtpadjkgbeijkpaaDoorFu
import Derived.Test.YtpadjkgbeijkpaaDoorN
namespace Go.Proofs.YtpadjkgbeijkpaaDoor
open Go.RowKit Go.Sort

def allF (xs : List (Int × Int)) : Bool := xs.all (fun x => okB x.1 x.2)
end Go.Proofs.YtpadjkgbeijkpaaDoor
