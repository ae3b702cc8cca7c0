/- WALKS: fractions that are made of numbers. -/
import Derived.Test.YtjhlpaeenjbljaaH
namespace Go.Proofs.Ytjhlpaeenjbljaa
open Go.RowKit Go.Sort

set_option maxHeartbeats 400000 in
theorem swhole1 (n : Int) (w : World) :
    Calls Try.prog 53 #[.int .i64 n] w fun e w' => e = .returned (fr n 1) ∧ Gr w w' := by
  go_enter Try.func53, Try.ntmps53
  go_wp2
  refine bodyPost_ret (v := fr n 1) (by simp [results, Try.results53, go_sem]) rfl ⟨rfl, ?_⟩
  exact Gr.alloc _ _
/-! ### MakeFrac -/
end Go.Proofs.Ytjhlpaeenjbljaa
