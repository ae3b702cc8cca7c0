/- WALKS: operate, and the four operations that the package exports. -/
import Derived.Test.YtnbdafecgccojaaF
namespace Go.Proofs.Ytnbdafecgccojaa
open Go.RowKit Go.Sort

theorem okB_bd {p q : Int} (h : okB p q = true) : 1 ≤ q ∧ q ≤ 1000000000 ∧ -1000000000 ≤ p ∧ p ≤ 1000000000 := by
  rw [okB_iff] at h; unfold Ok at h; omega
end Go.Proofs.Ytnbdafecgccojaa
