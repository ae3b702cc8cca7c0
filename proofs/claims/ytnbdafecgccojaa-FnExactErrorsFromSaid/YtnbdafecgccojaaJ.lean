/- WALKS: whole parts of fractions; a fraction is looked at. -/
import Derived.Test.YtnbdafecgccojaaF
import Derived.Test.YtnbdafecgccojaaB
namespace Go.Proofs.Ytnbdafecgccojaa
open Go.RowKit Go.Sort

def downI (p q : Int) : Int := if p.tmod q < 0 then p.tdiv q - 1 else p.tdiv q
theorem tmod_bd (p q : Int) (h1 : -4000000000000000000 ≤ p) (h2 : p ≤ 4000000000000000000) : -4000000000000000000 ≤ p.tmod q ∧ p.tmod q ≤ 4000000000000000000 := by
  have e : (p.tmod q).natAbs = p.natAbs % q.natAbs := Int.natAbs_tmod p q
  have := Nat.mod_le p.natAbs q.natAbs
  omega
theorem tdiv_bd' (p q : Int) (h1 : -4000000000000000000 ≤ p) (h2 : p ≤ 4000000000000000000) : -4000000000000000000 ≤ p.tdiv q ∧ p.tdiv q ≤ 4000000000000000000 := by
  have e : (p.tdiv q).natAbs = p.natAbs / q.natAbs := by rw [Int.natAbs_tdiv]; rfl
  have := Nat.div_le_self p.natAbs q.natAbs
  omega

end Go.Proofs.Ytnbdafecgccojaa
