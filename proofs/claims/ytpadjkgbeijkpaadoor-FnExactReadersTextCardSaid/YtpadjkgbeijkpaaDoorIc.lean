/- WALKS: a predicate over a slice of integers: slices.IndexFunc, slices.ContainsFunc. -/
import Derived.Test.YtpadjkgbeijkpaaDoorJ
namespace Go.Proofs.YtpadjkgbeijkpaaDoor
open Go.RowKit Go.Sort

/-! a predicate over a slice of integers -/
end Go.Proofs.YtpadjkgbeijkpaaDoor
