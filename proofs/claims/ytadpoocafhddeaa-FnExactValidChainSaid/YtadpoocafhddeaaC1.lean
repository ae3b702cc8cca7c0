/- WALKS: told: the result, or the error of a panic. -/
import Derived.Test.YtadpoocafhddeaaC0
namespace Go.Proofs.Ytadpoocafhddeaa
open Go.RowKit Go.Sort

end Go.Proofs.Ytadpoocafhddeaa
