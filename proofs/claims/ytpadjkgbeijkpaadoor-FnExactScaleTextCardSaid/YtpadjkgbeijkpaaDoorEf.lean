/- WALKS: fractions that are looked at, and the scale that is made of its first error and of those of its intervals, of the program and of the reference. -/
import Derived.Test.YtpadjkgbeijkpaaDoorFm
import Derived.Test.YtpadjkgbeijkpaaDoorAf
import Derived.Test.YtpadjkgbeijkpaaDoorRegC
import Derived.Test.YtpadjkgbeijkpaaDoorSkf
import Derived.Test.YtpadjkgbeijkpaaDoorFu
namespace Go.Proofs.YtpadjkgbeijkpaaDoor
open Go.RowKit Go.Sort

/-! told, of a scale -/
/-! validOr -/
end Go.Proofs.YtpadjkgbeijkpaaDoor
