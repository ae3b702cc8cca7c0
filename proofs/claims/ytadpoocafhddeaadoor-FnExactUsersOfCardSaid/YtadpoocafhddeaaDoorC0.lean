/- WALKS: what a panic of the program's own tells, and who recovers it. -/
import Derived.Test.YtadpoocafhddeaaDoorB0
namespace Go.Proofs.YtadpoocafhddeaaDoor
open Go.RowKit Go.Sort

theorem cells1 {w : World} {b : Nat} {x : Value} {T : TypeId} (h : w.heap[b]? = some (.cells #[x] T)) : w.cell? ⟨b, 0, none⟩ = some x := by
  simp [World.cell?, h]

set_option maxHeartbeats 400000 in
theorem catch_idle_I (p : Addr) (w : World) :
    CallsD Tryd.prog 94 #[.pointer (some p)] .returning w fun e u' w' => e = .returned (.tuple #[]) ∧ u' = .returning ∧ w' = w := by
  have h1 : ∀ w, (Instr.typeAssert .nilIface 20 128 true).run Tryd.prog w = .ok (.tuple #[.nilIface, .bool false]) w := fun _ => by kernel_rfl
  refine callsD_of_wpS Tryd.func94 rfl fun c₀ cs hu => ?_
  apply wpS_seq
  apply wpS_region
  simp [wpOpsS, go_sem, recoverD, hu, Tryd.ntmps94, Exit.thenS, ↓h1]
  apply wpS_of_wp
  go_wp2
  cases c₀
  simp_all [bodyPostS, results, Tryd.results94]

end Go.Proofs.YtadpoocafhddeaaDoor
