/- WALKS: the four operations that the package exports, and those of the reference. -/
import Derived.Test.YtkeflpcokcfcjaaDoorE
import Derived.Test.YtkeflpcokcfcjaaDoorB
namespace Go.Proofs.YtkeflpcokcfcjaaDoor
open Go.RowKit Go.Sort

end Go.Proofs.YtkeflpcokcfcjaaDoor
namespace Go.Proofs.YtkeflpcokcfcjaaDoor
open Go.RowKit Go.Sort

end Go.Proofs.YtkeflpcokcfcjaaDoor
namespace Go.Proofs.YtkeflpcokcfcjaaDoor
open Go.RowKit Go.Sort

/-! ### MakeFrac -/
end Go.Proofs.YtkeflpcokcfcjaaDoor
