/- WALKS: CorrectScale: the program. -/
import Derived.Test.YtjhlpaeenjbljaaCs
import Derived.Test.YtjhlpaeenjbljaaEh
namespace Go.Proofs.Ytjhlpaeenjbljaa
open Go.RowKit Go.Sort

end Go.Proofs.Ytjhlpaeenjbljaa
