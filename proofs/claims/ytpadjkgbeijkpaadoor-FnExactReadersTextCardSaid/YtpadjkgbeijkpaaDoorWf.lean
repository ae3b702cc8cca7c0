/- WALKS: a whole number as a fraction, of the program. -/
import Derived.Test.YtpadjkgbeijkpaaDoorC0
namespace Go.Proofs.YtpadjkgbeijkpaaDoor
open Go.RowKit Go.Sort

end Go.Proofs.YtpadjkgbeijkpaaDoor
