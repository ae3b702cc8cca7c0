/- Fractions in lowest terms: there is one only. -/
import Derived.Test.YtpadjkgbeijkpaaDoorN
import Derived.Test.YtpadjkgbeijkpaaDoorMath2
namespace Go.Proofs.YtpadjkgbeijkpaaDoor
open Go.RowKit Go.Sort

/-! fractions in lowest terms -/
theorem uni_of {P Q P' Q' a b c d : Int} (h1 : okB P Q = true) (h2 : okB P' Q' = true) (hb : 0 < b) (hd : 0 < d) (e1 : P * b = a * Q) (e2 : P' * d = c * Q') (h : a * d = c * b) : P = P' ∧ Q = Q' := by
  refine same_of (okB_iff.1 h1) (okB_iff.1 h2) ?_
  have hbd : b * d ≠ 0 := Int.ne_of_gt (Int.mul_pos hb hd)
  refine Int.eq_of_mul_eq_mul_right hbd ?_
  have s1 : P * Q' * (b * d) = (P * b) * (Q' * d) := by ac_rfl
  have s2 : a * Q * (Q' * d) = (a * d) * (Q * Q') := by ac_rfl
  have s3 : c * b * (Q * Q') = (c * Q') * (b * Q) := by ac_rfl
  have s4 : P' * d * (b * Q) = P' * Q * (b * d) := by ac_rfl
  rw [s1, e1, s2, h, s3, ← e2, s4]
theorem red_uni {a b c d : Int} (hb : 0 < b) (hd : 0 < d) (h1 : okB (redP a b) (redQ a b) = true) (h2 : okB (redP c d) (redQ c d) = true) (h : a * d = c * b) : redP a b = redP c d ∧ redQ a b = redQ c d :=
  uni_of h1 h2 hb hd (red_mul hb) (red_mul hd) h
theorem ok_red {p q : Int} (h1 : -1000000000 ≤ p) (h2 : p ≤ 1000000000) (h3 : 1 ≤ q) (h4 : q ≤ 1000000000) : okB (redP p q) (redQ p q) = true := by
  have a := tdiv_bd p (Int.gcd p q) 1000000000 h1 h2
  have b := tdiv_bd q (Int.gcd p q) 1000000000 (by omega) h4
  have hp := redQ_pos (p := p) (q := q) (by omega)
  have hg := red_gcd (p := p) (q := q) (by omega)
  rw [okB_iff]
  have e1 : redP p q = p.tdiv (Int.gcd p q) := by unfold redP; rw [if_neg (by omega)]
  have e2 : redQ p q = q.tdiv (Int.gcd p q) := by unfold redQ; rw [if_neg (by omega)]
  rw [e1, e2] at hg ⊢
  rw [e2] at hp
  exact ⟨hp, by omega, by omega, by omega, hg⟩
theorem red_self {p q : Int} (h : okB p q = true) : redP p q = p ∧ redQ p q = q := by
  obtain ⟨b1, b2, b3, b4⟩ := okB_bd h
  have hk := ok_red (p := p) (q := q) b3 b4 b1 b2
  exact uni_of hk h (by omega) (by omega) (red_mul (by omega)) rfl rfl
/-- What a fraction stands for: n / k. -/
def Is (x : Int × Int) (n k : Int) : Prop := okB x.1 x.2 = true ∧ x.1 * k = n * x.2
theorem Is.red {x : Int × Int} {n k : Int} (h : Is x n k) (hk : 0 < k) (ho : okB (redP n k) (redQ n k) = true) : x = (redP n k, redQ n k) := by
  obtain ⟨e1, e2⟩ := uni_of h.1 ho hk hk h.2 (red_mul hk) rfl
  exact Prod.ext e1 e2
theorem Is.of_red {n k : Int} (hk : 0 < k) (ho : okB (redP n k) (redQ n k) = true) : Is (redP n k, redQ n k) n k := ⟨ho, red_mul hk⟩
theorem Is.pos {x : Int × Int} {n k : Int} (h : Is x n k) : 0 < x.2 := by have := (okB_bd h.1).1; omega
end Go.Proofs.YtpadjkgbeijkpaaDoor
