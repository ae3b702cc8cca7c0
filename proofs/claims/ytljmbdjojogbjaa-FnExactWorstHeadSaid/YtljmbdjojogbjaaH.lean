/- WALKS: the four operations that the package exports, and those of the reference. -/
import Derived.Test.YtljmbdjojogbjaaG
import Derived.Test.YtljmbdjojogbjaaB
namespace Go.Proofs.Ytljmbdjojogbjaa
open Go.RowKit Go.Sort

end Go.Proofs.Ytljmbdjojogbjaa
