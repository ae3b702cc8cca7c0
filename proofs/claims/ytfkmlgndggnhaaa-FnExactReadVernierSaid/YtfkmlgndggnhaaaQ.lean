/- WALKS: a span is looked at, by the program and by the reference. -/
import Derived.Test.YtfkmlgndggnhaaaN
namespace Go.Proofs.Ytfkmlgndggnhaaa
open Go.RowKit Go.Sort

def spB (a b c d : Int) : Bool := okB a b && okB c d && decide (cmpI a b c d ≤ 0)

set_option maxRecDepth 20000 in
set_option maxHeartbeats 400000 in
theorem eqSpan_any (a b c d : Int) (w : World) :
    Calls Try.prog 47 #[sp a b c d, sp a b c d] w fun e w' => e = .returned (.bool true) ∧ Gr w w' := by
  go_enter Try.func47, Try.ntmps47
  go_wp2_with fail
  refine (eqFrac_any _ _ _).mono ?_
  rintro e w1 ⟨rfl, hg1⟩
  obtain ⟨x0, x1, hz, G1⟩ := alloc2 hg1
  obtain ⟨_, _, _, _⟩ := cells4 x0
  obtain ⟨_, _, _, _⟩ := cells4 x1
  have G1 := hid G1
  clear hg1 x0 x1
  go_wp2_with fail
  refine (eqFrac_any _ _ _).mono ?_
  rintro e w2 ⟨rfl, hg2⟩
  have G2 := hid (G1.out.trans hg2)
  clear hg2
  go_wp2
  go_ret
  exact ⟨rfl, G2.out⟩
end Go.Proofs.Ytfkmlgndggnhaaa
