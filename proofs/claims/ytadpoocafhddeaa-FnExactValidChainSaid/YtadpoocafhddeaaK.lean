/- WALKS: fractions that are made of numbers. -/
import Derived.Test.YtadpoocafhddeaaH
namespace Go.Proofs.Ytadpoocafhddeaa
open Go.RowKit Go.Sort

/-! ### MakeFrac -/
end Go.Proofs.Ytadpoocafhddeaa
