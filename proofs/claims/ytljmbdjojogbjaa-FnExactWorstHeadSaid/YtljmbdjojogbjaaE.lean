/- WALKS: the four operations, and the closures in which they are done. -/
import Derived.Test.YtljmbdjojogbjaaD
namespace Go.Proofs.Ytljmbdjojogbjaa
open Go.RowKit Go.Sort

end Go.Proofs.Ytljmbdjojogbjaa
