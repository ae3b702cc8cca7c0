/- WALKS: the four operations that the package exports, and those of the reference. -/
import Derived.Test.YtadpoocafhddeaaE
import Derived.Test.YtadpoocafhddeaaB
namespace Go.Proofs.Ytadpoocafhddeaa
open Go.RowKit Go.Sort

end Go.Proofs.Ytadpoocafhddeaa
