/- WALKS: fractions that are made of numbers. -/
import Derived.Test.YtfcoigdmnmgohaaH
namespace Go.Proofs.Ytfcoigdmnmgohaa
open Go.RowKit Go.Sort

set_option maxHeartbeats 400000 in
theorem swhole1 (n : Int) (w : World) :
    Calls Try.prog 64 #[.int .i64 n] w fun e w' => e = .returned (fr n 1) ∧ Gr w w' := by
  go_enter Try.func64, Try.ntmps64
  go_wp2
  refine bodyPost_ret (v := fr n 1) (by simp [results, Try.results64, go_sem]) rfl ⟨rfl, ?_⟩
  exact Gr.alloc _ _
/-! ### MakeFrac -/
end Go.Proofs.Ytfcoigdmnmgohaa
