/- WALKS: BestRepeats, of the reference. -/
import Derived.Test.YtljmbdjojogbjaaHi
import Derived.Test.YtljmbdjojogbjaaRegO
namespace Go.Proofs.Ytljmbdjojogbjaa
open Go.RowKit Go.Sort

/-- By how much the mean of so many times is off, times its denominator. -/
def mzA (H : Int → Int) (s g t : Int) : Int := ((redP (rpS H s g t) t - g * redQ (rpS H s g t) t).natAbs : Int)
theorem mz_mul {H : Int → Int} {s g t : Int} (ht : 0 < t) : mzA H s g t * t = offA H s g t * redQ (rpS H s g t) t := by
  have h := red_mul (p := rpS H s g t) ht
  have hq := redQ_pos (p := rpS H s g t) (q := t) (by omega)
  unfold mzA offA
  have e1 : ((redP (rpS H s g t) t - g * redQ (rpS H s g t) t).natAbs : Int) * t = (((redP (rpS H s g t) t - g * redQ (rpS H s g t) t) * t).natAbs : Int) := by
    rw [Int.natAbs_mul]; push_cast; rw [show ((t.natAbs : Nat) : Int) = t by omega]
  have e2 : ((rpS H s g t - t * g).natAbs : Int) * redQ (rpS H s g t) t = (((rpS H s g t - t * g) * redQ (rpS H s g t) t).natAbs : Int) := by
    rw [Int.natAbs_mul]; push_cast; rw [show (((redQ (rpS H s g t) t).natAbs : Nat) : Int) = redQ (rpS H s g t) t by omega]
  rw [e1, e2]
  have e3 : (redP (rpS H s g t) t - g * redQ (rpS H s g t) t) * t = (rpS H s g t - t * g) * redQ (rpS H s g t) t := by
    rw [Int.sub_mul, Int.sub_mul, h]
    have : g * redQ (rpS H s g t) t * t = t * g * redQ (rpS H s g t) t := by
      rw [Int.mul_comm (g * redQ (rpS H s g t) t) t, Int.mul_assoc]
    rw [this]
  rw [e3]
theorem near_eq {H : Int → Int} {s g t t' : Int} (ht : 0 < t) (ht' : 0 < t') : decide (mzA H s g t * redQ (rpS H s g t') t' < mzA H s g t' * redQ (rpS H s g t) t) = decide (offA H s g t * t' < offA H s g t' * t) := by
  have h1 := mz_mul (H := H) (s := s) (g := g) ht
  have h2 := mz_mul (H := H) (s := s) (g := g) ht'
  have q1 := redQ_pos (p := rpS H s g t) (q := t) (by omega)
  have q2 := redQ_pos (p := rpS H s g t') (q := t') (by omega)
  generalize redQ (rpS H s g t) t = Q at *
  generalize redQ (rpS H s g t') t' = Q' at *
  generalize mzA H s g t = a at *
  generalize mzA H s g t' = a' at *
  generalize offA H s g t = o at *
  generalize offA H s g t' = o' at *
  have e1 : (a * Q') * (t * t') = (o * t') * (Q * Q') := by
    have : (a * Q') * (t * t') = (a * t) * (Q' * t') := by ac_rfl
    rw [this, h1]; ac_rfl
  have e2 : (a' * Q) * (t * t') = (o' * t) * (Q * Q') := by
    have : (a' * Q) * (t * t') = (a' * t') * (Q * t) := by ac_rfl
    rw [this, h2]; ac_rfl
  have p1 : 0 < t * t' := Int.mul_pos ht ht'
  have p2 : 0 < Q * Q' := Int.mul_pos q1 q2
  rw [decide_eq_decide]
  constructor
  · intro h
    have := Int.mul_lt_mul_of_pos_right h p1
    rw [e1, e2] at this
    exact Int.lt_of_mul_lt_mul_right this (by omega)
  · intro h
    have := Int.mul_lt_mul_of_pos_right h p2
    rw [← e1, ← e2] at this
    exact Int.lt_of_mul_lt_mul_right this (by omega)
theorem mz_bd {H : Int → Int} {s g t : Int} (h : RpB s g t) : (-1000000000 ≤ redP (rpS H s g t) t ∧ redP (rpS H s g t) t ≤ 1000000000) ∧ (1 ≤ redQ (rpS H s g t) t ∧ redQ (rpS H s g t) t ≤ 200) ∧ (0 ≤ g * redQ (rpS H s g t) t ∧ g * redQ (rpS H s g t) t ≤ 260000000) ∧ (0 ≤ mzA H s g t ∧ mzA H s g t ≤ 2000000000) := by
  obtain ⟨_, _, z1, z2⟩ := rp_bd (H := H) h
  obtain ⟨_, _, g1, g2, t1, t2⟩ := h
  have a1 := redQ_pos (p := rpS H s g t) (q := t) (by omega)
  have k : (-1000000000 ≤ redP (rpS H s g t) t ∧ redP (rpS H s g t) t ≤ 1000000000) ∧ redQ (rpS H s g t) t ≤ 200 := by
    clear a1
    unfold redP redQ
    rw [if_neg (by omega), if_neg (by omega)]
    exact ⟨tdiv_bd (rpS H s g t) (Int.gcd (rpS H s g t) t) 1000000000 (by omega) (by omega), (tdiv_bd t (Int.gcd (rpS H s g t) t) 200 (by omega) t2).2⟩
  obtain ⟨⟨k1, k2⟩, k3⟩ := k
  have m := mul_bdg (x := g) (y := redQ (rpS H s g t) t) (A := 1296000) (B := 200) (by omega) (by omega) (by omega) (by omega)
  have := Int.mul_nonneg g1 (show 0 ≤ redQ (rpS H s g t) t by omega)
  unfold mzA
  omega
end Go.Proofs.Ytljmbdjojogbjaa
