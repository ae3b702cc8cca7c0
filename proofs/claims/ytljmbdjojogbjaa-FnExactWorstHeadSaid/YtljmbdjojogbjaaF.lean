/- WALKS: a fraction is looked at; the table of operations, and the closures in which they are done. -/
import Derived.Test.YtljmbdjojogbjaaE
import Derived.Laws.EntriesVeiled
namespace Go.Proofs.Ytljmbdjojogbjaa
open Go.RowKit Go.Sort

theorem okB_no {p q : Int} (h : q < 1 ∨ 1000000000 < q ∨ p < -1000000000 ∨ 1000000000 < p) : okB p q = false := by
  rw [okB_false]; unfold Ok; omega
end Go.Proofs.Ytljmbdjojogbjaa
