/- Plain arithmetic: a fraction less one that is not negative is not greater. -/
import Derived.Test.YtgfopfomhgfcaaaGreatDoorMath
namespace Go.Proofs.YtgfopfomhgfcaaaGreatDoor

theorem red_mul {p q : Int} (h : 0 < q) : redP p q * q = p * redQ p q := by
  unfold redP redQ
  rw [if_neg (by omega), if_neg (by omega)]
  obtain ⟨k, hk⟩ : ((Int.gcd p q : Nat) : Int) ∣ q := Int.gcd_dvd_right p q
  obtain ⟨l, hl⟩ : ((Int.gcd p q : Nat) : Int) ∣ p := Int.gcd_dvd_left p q
  have hg := gcd_pos (p := p) (q := q) (by omega)
  generalize Int.gcd p q = g at *
  subst hk hl
  rw [Int.mul_tdiv_cancel_left _ (by omega), Int.mul_tdiv_cancel_left _ (by omega)]
  simp only [Int.mul_comm, Int.mul_left_comm]
theorem sub_le_red {n m c e : Int} (hm : 1 ≤ m) (he : 1 ≤ e) (hc : 0 ≤ c) : redP (n * e - c * m) (m * e) * m ≤ n * redQ (n * e - c * m) (m * e) := by
  have hQ : 0 < m * e := Int.mul_pos (by omega) (by omega)
  have h1 := red_mul (p := n * e - c * m) hQ
  have h2 : 1 ≤ redQ (n * e - c * m) (m * e) := redQ_pos (by omega)
  generalize redP (n * e - c * m) (m * e) = P at *
  generalize redQ (n * e - c * m) (m * e) = Q at *
  refine Int.not_lt.1 fun h => ?_
  have h3 := Int.mul_lt_mul_of_pos_right h hQ
  have h4 : P * m * (m * e) = (n * e - c * m) * Q * m := by rw [Int.mul_right_comm, h1]
  rw [h4] at h3
  have h5 : 0 ≤ c * m * Q * m := Int.mul_nonneg (Int.mul_nonneg (Int.mul_nonneg hc (by omega)) (by omega)) (by omega)
  simp only [Int.sub_mul] at h3
  have e1 : n * Q * (m * e) = n * e * Q * m := by simp only [Int.mul_comm, Int.mul_left_comm]
  omega
end Go.Proofs.YtgfopfomhgfcaaaGreatDoor
