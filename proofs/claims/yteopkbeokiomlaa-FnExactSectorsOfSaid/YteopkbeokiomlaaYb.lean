/- WALKS: MeanOfTwo, of the program and of the reference; MakeFrac of numbers that are not too great. -/
import Derived.Test.YteopkbeokiomlaaM
import Derived.Test.YteopkbeokiomlaaYa
namespace Go.Proofs.Yteopkbeokiomlaa
open Go.RowKit Go.Sort

theorem opp_same (s : Int) : wrapI (s - 648000) = wrapI (s + 648000) := by unfold wrapI; omega

/-- Twice the mean of both. -/
def mean2 (a b : Int) : Int := 2 * a + turnI a (wrapI (b + 648000))
end Go.Proofs.Yteopkbeokiomlaa
