/- WALKS: fractions that are made of numbers. -/
import Derived.Test.YtflfjedimcbfeaaH
namespace Go.Proofs.Ytflfjedimcbfeaa
open Go.RowKit Go.Sort

set_option maxHeartbeats 400000 in
theorem swhole1 (n : Int) (w : World) :
    Calls Try.prog 107 #[.int .i64 n] w fun e w' => e = .returned (fr n 1) ∧ Gr w w' := by
  go_enter Try.func107, Try.ntmps107
  go_wp2
  refine bodyPost_ret (v := fr n 1) (by simp [results, Try.results107, go_sem]) rfl ⟨rfl, ?_⟩
  exact Gr.alloc _ _
/-! ### MakeFrac -/
end Go.Proofs.Ytflfjedimcbfeaa
