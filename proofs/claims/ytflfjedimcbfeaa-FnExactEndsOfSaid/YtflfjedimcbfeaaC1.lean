/- WALKS: told: the result, or the error of a panic. -/
import Derived.Test.YtflfjedimcbfeaaC0
namespace Go.Proofs.Ytflfjedimcbfeaa
open Go.RowKit Go.Sort

end Go.Proofs.Ytflfjedimcbfeaa
