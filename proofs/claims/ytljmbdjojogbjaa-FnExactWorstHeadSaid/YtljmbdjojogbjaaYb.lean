/- WALKS: MeanOfTwo, of the program and of the reference; MakeFrac of numbers that are not too great. -/
import Derived.Test.YtljmbdjojogbjaaM
import Derived.Test.YtljmbdjojogbjaaYa
namespace Go.Proofs.Ytljmbdjojogbjaa
open Go.RowKit Go.Sort

/-- MakeFrac, as the reference's reduction. -/
theorem iMakeR (p q : Int) (w : World) (p1 : -1000000000000000000 ≤ p) (p2 : p ≤ 1000000000000000000) (q1 : 1 ≤ q) (q2 : q ≤ 1000000000000000000) :
    Calls Try.prog 56 #[.int .i64 p, .int .i64 q] w fun e w' => e = .returned (.tuple #[fr (rP p q) (rQ p q), .int .i64 (rC p q)]) ∧ Gr w w' := by
  have h1 : gtB p 1000000000000000000 = false := by unfold gtB; simp; omega
  have h2 : gtB q 1000000000000000000 = false := by unfold gtB; simp; omega
  have h3 : ((q : Int) == 0) = false := by simp; omega
  unfold rP rQ rC
  cases hk : okB (redP p q) (redQ p q) with
  | true => simp only [if_true]; exact iMake_ok p q w h1 h2 h3 hk
  | false => simp only [if_false, Bool.false_eq_true]; exact iMake_bad p q w h1 h2 h3 hk
theorem opp_same (s : Int) : wrapI (s - 648000) = wrapI (s + 648000) := by unfold wrapI; omega

/-- Twice the mean of both. -/
def mean2 (a b : Int) : Int := 2 * a + turnI a (wrapI (b + 648000))
end Go.Proofs.Ytljmbdjojogbjaa
