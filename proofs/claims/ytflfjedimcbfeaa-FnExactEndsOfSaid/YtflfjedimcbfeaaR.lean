/- WALKS: spans of sums and differences: the reference's. -/
import Derived.Test.YtflfjedimcbfeaaN
import Derived.Test.YtflfjedimcbfeaaI
namespace Go.Proofs.Ytflfjedimcbfeaa
open Go.RowKit Go.Sort

/-- What two sums tell together. -/
def bV (n1 d1 n2 d2 : Int) : Value := if okB (redP n1 d1) (redQ n1 d1) && okB (redP n2 d2) (redQ n2 d2) then .tuple #[sp (redP n1 d1) (redQ n1 d1) (redP n2 d2) (redQ n2 d2), .int .i64 0] else .tuple #[sp 0 0 0 0, .int .i64 3]
theorem bV_form (n1 d1 n2 d2 : Int) : ∃ p q p' q' c : Int, bV n1 d1 n2 d2 = .tuple #[sp p q p' q', .int .i64 c] := by
  unfold bV; split <;> exact ⟨_, _, _, _, _, rfl⟩
end Go.Proofs.Ytflfjedimcbfeaa
