/- WALKS: fractions that are made of numbers. -/
import Derived.Test.YtadpoocafhddeaaDoorH
namespace Go.Proofs.YtadpoocafhddeaaDoor
open Go.RowKit Go.Sort

/-! ### MakeFrac -/
end Go.Proofs.YtadpoocafhddeaaDoor
