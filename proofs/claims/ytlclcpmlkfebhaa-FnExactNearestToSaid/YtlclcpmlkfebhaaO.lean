/- WALKS: CompareFracs, of the program and of the reference. -/
import Derived.Test.YtlclcpmlkfebhaaN
namespace Go.Proofs.Ytlclcpmlkfebhaa
open Go.RowKit Go.Sort

end Go.Proofs.Ytlclcpmlkfebhaa
