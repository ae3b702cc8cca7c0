/- WALKS: the reference's four operations. -/
import Derived.Test.YtadpoocafhddeaaDoorH
namespace Go.Proofs.YtadpoocafhddeaaDoor
open Go.RowKit Go.Sort

end Go.Proofs.YtadpoocafhddeaaDoor
