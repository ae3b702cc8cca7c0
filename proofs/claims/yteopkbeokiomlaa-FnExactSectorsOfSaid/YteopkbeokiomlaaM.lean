/- WALKS: MakeFrac, of the program and of the reference, case by case. -/
import Derived.Test.YteopkbeokiomlaaK
namespace Go.Proofs.Yteopkbeokiomlaa
open Go.RowKit Go.Sort

theorem gt_in {n m : Int} (h : gtB n m = false) : inB n (-m) m = true := by
  unfold gtB at h; unfold inB; simp at h ⊢; omega
theorem gt_out {n m : Int} (h : gtB n m = true) : inB n (-m) m = false := by
  unfold gtB at h; unfold inB; simp at h ⊢; omega
theorem gt_bd {n m : Int} (h : gtB n m = false) : -m ≤ n ∧ n ≤ m := by
  unfold gtB at h; simp at h; omega

end Go.Proofs.Yteopkbeokiomlaa
