/- WALKS: AddSpans, SubSpans, WidthOf, InSpan, of the program and of the reference. -/
import Derived.Test.YtnbdafecgccojaaT
namespace Go.Proofs.Ytnbdafecgccojaa
open Go.RowKit Go.Sort

theorem okB_neg {p q : Int} (h : okB p q = true) : okB (-p) q = true := by
  rw [okB_iff] at *
  unfold Ok at *
  have e : Int.gcd (-p) q = Int.gcd p q := by simp [Int.gcd]
  omega
end Go.Proofs.Ytnbdafecgccojaa
