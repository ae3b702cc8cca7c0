/- WALKS: the four operations that the package exports, and those of the reference. -/
import Derived.Test.YtjhlpaeenjbljaaE
import Derived.Test.YtjhlpaeenjbljaaB
namespace Go.Proofs.Ytjhlpaeenjbljaa
open Go.RowKit Go.Sort

set_option maxHeartbeats 400000 in
theorem sneg (a b : Int) (w : World) (h1 : -1000000000 ≤ a) (h2 : a ≤ 1000000000) :
    Calls Try.prog 126 #[fr a b] w fun e w' => e = .returned (fr (-a) b) ∧ Gr w w' := by
  go_enter Try.func126, Try.ntmps126
  go_wp2
  refine bodyPost_ret (v := fr (-a) b) (by simp [results, Try.results126, go_sem]) rfl ⟨rfl, ?_⟩
  exact (Gr.alloc _ _).trans (Gr.alloc _ _)
end Go.Proofs.Ytjhlpaeenjbljaa
