/- WALKS: LastDigits, of the program and of the reference. -/
import Derived.Test.YtpadjkgbeijkpaaPe
namespace Go.Proofs.Ytpadjkgbeijkpaa
open Go.RowKit Go.Sort

theorem tm_neg {p : Int} (h : p ≤ 0) : p.tmod 10 = -((p.natAbs % 10 : Nat) : Int) := by
  obtain ⟨a, rfl⟩ : ∃ a : Nat, p = -(a : Int) := ⟨p.natAbs, by omega⟩
  rw [Int.neg_tmod, Int.tmod_eq_emod_of_nonneg (by omega), Int.natAbs_neg]
  omega
end Go.Proofs.Ytpadjkgbeijkpaa
