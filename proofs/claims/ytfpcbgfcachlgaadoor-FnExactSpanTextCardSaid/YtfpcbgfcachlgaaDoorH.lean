/- WALKS: the four operations that the package exports, and those of the reference. -/
import Derived.Test.YtfpcbgfcachlgaaDoorE
import Derived.Test.YtfpcbgfcachlgaaDoorB
namespace Go.Proofs.YtfpcbgfcachlgaaDoor
open Go.RowKit Go.Sort

end Go.Proofs.YtfpcbgfcachlgaaDoor
namespace Go.Proofs.YtfpcbgfcachlgaaDoor
open Go.RowKit Go.Sort

end Go.Proofs.YtfpcbgfcachlgaaDoor
namespace Go.Proofs.YtfpcbgfcachlgaaDoor
open Go.RowKit Go.Sort

set_option maxHeartbeats 400000 in
theorem swhole1 (n : Int) (w : World) :
    Calls Tryd.prog 44 #[.int .i64 n] w fun e w' => e = .returned (fr n 1) ∧ Gr w w' := by
  go_enter Tryd.func44, Tryd.ntmps44
  go_wp2
  refine bodyPost_ret (v := fr n 1) (by simp [results, Tryd.results44, go_sem]) rfl ⟨rfl, ?_⟩
  exact Gr.alloc _ _
/-! ### MakeFrac -/
end Go.Proofs.YtfpcbgfcachlgaaDoor
