/- WALKS: verniers and screws: are they valid; how they come from the laws' values. -/
import Derived.Test.YtadpoocafhddeaaDoorW
import Derived.Test.YtadpoocafhddeaaDoorK
import Derived.Test.YtadpoocafhddeaaDoorB1
namespace Go.Proofs.YtadpoocafhddeaaDoor
open Go.RowKit Go.Sort

/-! a length is at most so long -/
def withinB (a b most : Int) : Bool := okB a b && (decide (0 < a) && decide (a ≤ most * b))
theorem cmp_whole {a b m : Int} : decide (cmpI a b m 1 ≤ 0) = decide (a ≤ m * b) := by
  unfold cmpI
  rw [Int.mul_one]
  by_cases h : a ≤ m * b
  · simp only [h, decide_true, decide_eq_true_eq]
    split
    · omega
    · rw [if_neg (by omega)]; omega
  · simp only [h, decide_false, decide_eq_false_iff_not]
    rw [if_neg (by omega), if_pos (by omega)]; omega
/-! a screw -/
theorem within_ok {a b m : Int} (h : withinB a b m = true) : okB a b = true := by
  unfold withinB at h; simp at h; exact h.1
def scB (a b n c d : Int) : Bool := withinB a b 100 && (inB n 2 100 && (okB c d && (decide (0 ≤ c) && decide (cmpI c d a b ≤ 0))))
end Go.Proofs.YtadpoocafhddeaaDoor
