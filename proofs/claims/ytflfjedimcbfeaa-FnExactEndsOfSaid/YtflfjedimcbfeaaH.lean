/- WALKS: the four operations that the package exports, and those of the reference. -/
import Derived.Test.YtflfjedimcbfeaaE
import Derived.Test.YtflfjedimcbfeaaB
namespace Go.Proofs.Ytflfjedimcbfeaa
open Go.RowKit Go.Sort

set_option maxHeartbeats 400000 in
theorem sneg (a b : Int) (w : World) (h1 : -1000000000 ≤ a) (h2 : a ≤ 1000000000) :
    Calls Try.prog 119 #[fr a b] w fun e w' => e = .returned (fr (-a) b) ∧ Gr w w' := by
  go_enter Try.func119, Try.ntmps119
  go_wp2
  refine bodyPost_ret (v := fr (-a) b) (by simp [results, Try.results119, go_sem]) rfl ⟨rfl, ?_⟩
  exact (Gr.alloc _ _).trans (Gr.alloc _ _)
end Go.Proofs.Ytflfjedimcbfeaa
