/- WALKS: the four operations that the package exports, and those of the reference. -/
import Derived.Test.YtadpoocafhddeaaDoorE
import Derived.Test.YtadpoocafhddeaaDoorB
namespace Go.Proofs.YtadpoocafhddeaaDoor
open Go.RowKit Go.Sort

end Go.Proofs.YtadpoocafhddeaaDoor
