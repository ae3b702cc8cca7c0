/- WALKS: the four operations that the package exports, and those of the reference. -/
import Derived.Test.YtlekfoboolemgaaG
import Derived.Test.YtlekfoboolemgaaB
namespace Go.Proofs.Ytlekfoboolemgaa
open Go.RowKit Go.Sort

end Go.Proofs.Ytlekfoboolemgaa
