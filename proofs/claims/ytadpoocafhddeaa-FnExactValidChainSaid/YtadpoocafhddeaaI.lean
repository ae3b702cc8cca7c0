/- WALKS: the reference's four operations. -/
import Derived.Test.YtadpoocafhddeaaH
namespace Go.Proofs.Ytadpoocafhddeaa
open Go.RowKit Go.Sort

end Go.Proofs.Ytadpoocafhddeaa
