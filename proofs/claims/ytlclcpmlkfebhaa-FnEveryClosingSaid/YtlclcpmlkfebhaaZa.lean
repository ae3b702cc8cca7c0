/- What the sectors are together, behind sharing out. -/
import Derived.Test.YtlclcpmlkfebhaaIw
import Derived.Test.YtlclcpmlkfebhaaYa
namespace Go.Proofs.Ytlclcpmlkfebhaa
open Go.RowKit Go.Sort

/-- The sum of the first k. -/
def pSum (xs : List Int) : Nat → Int
  | 0 => 0
  | k + 1 => pSum xs k + shAt xs (clo xs) k
theorem pSum_eq (xs : List Int) : ∀ k, k ≤ xs.length → pSum xs k = clo (xs.take k) + 1296000 - downI ((k : Int) * clo xs) (xs.length : Int)
  | 0, _ => by simp [pSum, clo, downI]
  | k + 1, hk => by
    obtain ⟨p, hp⟩ : ∃ p, xs[k]? = some p := ⟨xs[k], List.getElem?_eq_getElem _⟩
    have h := pSum_eq xs k (by omega)
    have hs : shAt xs (clo xs) k = p - (downI (((k : Int) + 1) * clo xs) (xs.length : Int) - downI ((k : Int) * clo xs) (xs.length : Int)) := by unfold shAt; rw [List.getD_eq_getElem?_getD, hp]; rfl
    simp only [pSum]
    rw [h, hs, clo_step hp]
    push_cast
    omega
theorem pSum_all {xs : List Int} (h : 1 ≤ xs.length) : pSum xs xs.length = 1296000 := by
  rw [pSum_eq xs xs.length (Nat.le_refl _), List.take_length, down_div _ _ (by omega), Int.mul_ediv_cancel_left _ (by omega)]
  omega
theorem pSum_bd {xs : List Int} (h2 : xs.length ≤ 72) (h3 : xs.all okSec = true) {k : Nat} (hk : k ≤ xs.length) : -4000000002000000000 ≤ pSum xs k ∧ pSum xs k ≤ 4000000002000000000 := by
  have e := pSum_eq xs k hk
  have hb := clo_bd xs xs.length h3 (Nat.le_refl _)
  rw [List.take_length] at hb
  have hc := clo_bd xs k h3 hk
  have m := mul_bd (x := (k : Int)) (y := clo xs) (by omega) (by omega) (by omega) (by omega)
  have d := down_bd _ (xs.length : Int) m.1 m.2
  omega
end Go.Proofs.Ytlclcpmlkfebhaa
