/- WALKS: the four operations, and the closures in which they are done. -/
import Derived.Test.YtlekfoboolemgaaD
namespace Go.Proofs.Ytlekfoboolemgaa
open Go.RowKit Go.Sort

end Go.Proofs.Ytlekfoboolemgaa
