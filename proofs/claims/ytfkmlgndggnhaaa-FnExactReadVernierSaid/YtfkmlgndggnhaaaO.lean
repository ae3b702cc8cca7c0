/- WALKS: CompareFracs, of the program and of the reference. -/
import Derived.Test.YtfkmlgndggnhaaaN
namespace Go.Proofs.Ytfkmlgndggnhaaa
open Go.RowKit Go.Sort

end Go.Proofs.Ytfkmlgndggnhaaa
