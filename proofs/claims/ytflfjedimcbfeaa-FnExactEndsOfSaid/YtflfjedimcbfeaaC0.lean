/- WALKS: what a panic of the program's own tells, and who recovers it. -/
import Derived.Test.YtflfjedimcbfeaaB0
namespace Go.Proofs.Ytflfjedimcbfeaa
open Go.RowKit Go.Sort

theorem cells1 {w : World} {b : Nat} {x : Value} {T : TypeId} (h : w.heap[b]? = some (.cells #[x] T)) : w.cell? ⟨b, 0, none⟩ = some x := by
  simp [World.cell?, h]

set_option maxHeartbeats 400000 in
theorem code_great (p q : Int) (w : World) : Calls Try.prog 148 #[fr p q] w fun e w' => e = .returned (.int .i64 3) ∧ Gr w w' := by
  go_enter Try.func148, Try.ntmps148
  go_wp2
  go_ret
  exact ⟨rfl, Gr.alloc _ _⟩

end Go.Proofs.Ytflfjedimcbfeaa
