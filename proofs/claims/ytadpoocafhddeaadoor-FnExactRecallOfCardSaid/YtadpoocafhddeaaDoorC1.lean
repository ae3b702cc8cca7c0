/- WALKS: told: the result, or the error of a panic. -/
import Derived.Test.YtadpoocafhddeaaDoorC0
namespace Go.Proofs.YtadpoocafhddeaaDoor
open Go.RowKit Go.Sort

set_option maxRecDepth 20000 in
set_option maxHeartbeats 400000 in
theorem told_ok_I (f : Nat) (cap : Array Value) (P : Int) (w : World) (hen : ∀ w, (callFunc f cap).run Tryd.prog w = .ok (.enter f cap) w) (hF : ∀ w', Gr w w' → Calls Tryd.prog f cap w' fun e w'' => e = .returned (.int .i64 P) ∧ Gr w' w'') :
    Calls Tryd.prog 81 #[.func (.func f) #[] cap] w fun e w' => e = .returned (.tuple #[.int .i64 P, .int .i64 0]) ∧ Gr w w' := by
  have HF := hid hF; clear hF
  go_enter_defers Tryd.func81, Tryd.ntmps81
  go_wp2_with fail
  refine (HF.out _ (Gr.alloc _ _)).mono ?_
  rintro e w1 ⟨rfl, hg⟩
  obtain ⟨x1, hz, G1⟩ := alloc1 hg
  have _ := cells1 x1
  have _ := fz x1
  have G1 := hid G1
  clear hg x1
  go_wp2_with fail
  refine leaves_cons (f := 94) (args := #[.pointer (some ⟨w.heap.size, 0, none⟩)]) (by simp) (by simp [go_sem]) ?_
  refine (catch_idle_I _ _).mono ?_
  rintro e u' w2 ⟨rfl, rfl, rfl⟩
  simp [Leaves, settle, results, Tryd.results81, go_sem, *]
  exact G1.out.setCell (by simp) _

end Go.Proofs.YtadpoocafhddeaaDoor
