/- WALKS: what a panic of the program's own tells, and who recovers it. -/
import Derived.Test.YtadpoocafhddeaaB0
namespace Go.Proofs.Ytadpoocafhddeaa
open Go.RowKit Go.Sort

theorem cells1 {w : World} {b : Nat} {x : Value} {T : TypeId} (h : w.heap[b]? = some (.cells #[x] T)) : w.cell? ⟨b, 0, none⟩ = some x := by
  simp [World.cell?, h]

end Go.Proofs.Ytadpoocafhddeaa
