/- WALKS: fractions are compared. -/
import Derived.Test.YtflfjedimcbfeaaH
namespace Go.Proofs.Ytflfjedimcbfeaa
open Go.RowKit Go.Sort

/-- -1, 0 or 1. -/
def cmpI (a b c d : Int) : Int := if a * d < c * b then -1 else if c * b < a * d then 1 else 0

set_option maxHeartbeats 400000 in
theorem scmp_lt (a b c d : Int) (w : World) (q0 : -1000000000000000000 ≤ a * d) (q3 : c * b ≤ 1000000000000000000) (h : a * d < c * b) :
    Calls Try.prog 106 #[fr a b, fr c d] w fun e w' => e = .returned (.int .i64 (-1)) ∧ Gr w w' := by
  go_enter Try.func106, Try.ntmps106
  go_wp2
  go_ret
  exact ⟨rfl, (Gr.alloc _ _).trans (Gr.alloc _ _)⟩
set_option maxHeartbeats 400000 in
theorem scmp_gt (a b c d : Int) (w : World) (q1 : a * d ≤ 1000000000000000000) (q2 : -1000000000000000000 ≤ c * b) (h : c * b < a * d) :
    Calls Try.prog 106 #[fr a b, fr c d] w fun e w' => e = .returned (.int .i64 1) ∧ Gr w w' := by
  go_enter Try.func106, Try.ntmps106
  go_wp2
  go_ret
  exact ⟨rfl, (Gr.alloc _ _).trans (Gr.alloc _ _)⟩
set_option maxHeartbeats 400000 in
theorem scmp_eq (a b c d : Int) (w : World) (q0 : -1000000000000000000 ≤ a * d) (q1 : a * d ≤ 1000000000000000000) (h : ¬ a * d < c * b) (h' : ¬ c * b < a * d) :
    Calls Try.prog 106 #[fr a b, fr c d] w fun e w' => e = .returned (.int .i64 0) ∧ Gr w w' := by
  go_enter Try.func106, Try.ntmps106
  go_wp2
  go_ret
  exact ⟨rfl, (Gr.alloc _ _).trans (Gr.alloc _ _)⟩
theorem scmp (a b c d : Int) (w : World) (q0 : -1000000000000000000 ≤ a * d) (q1 : a * d ≤ 1000000000000000000) (q2 : -1000000000000000000 ≤ c * b) (q3 : c * b ≤ 1000000000000000000) :
    Calls Try.prog 106 #[fr a b, fr c d] w fun e w' => e = .returned (.int .i64 (cmpI a b c d)) ∧ Gr w w' := by
  unfold cmpI
  by_cases h : a * d < c * b
  · rw [if_pos h]; exact scmp_lt a b c d w q0 q3 h
  · rw [if_neg h]
    by_cases h' : c * b < a * d
    · rw [if_pos h']; exact scmp_gt a b c d w q1 q2 h'
    · rw [if_neg h']; exact scmp_eq a b c d w q0 q1 h h'

/-- Each value has one fraction in lowest terms. -/
theorem dvd_of {a b d : Int} (g : Int.gcd a b = 1) (h : b ∣ a * d) : b ∣ d := by
  have h1 : b.natAbs ∣ a.natAbs * d.natAbs := by rw [← Int.natAbs_mul]; exact Int.natAbs_dvd_natAbs.2 h
  have h2 : Nat.Coprime b.natAbs a.natAbs := by
    show Nat.gcd _ _ = 1
    rw [Nat.gcd_comm]; exact g
  exact Int.natAbs_dvd_natAbs.1 (h2.dvd_of_dvd_mul_left h1)
theorem same_of {a b c d : Int} (h1 : Ok a b) (h2 : Ok c d) (h : a * d = c * b) : a = c ∧ b = d := by
  obtain ⟨b1, _, _, _, g1⟩ := h1
  obtain ⟨d1, _, _, _, g2⟩ := h2
  have k1 : b ∣ d := dvd_of g1 ⟨c, by rw [h, Int.mul_comm]⟩
  have k2 : d ∣ b := dvd_of g2 ⟨a, by rw [← h, Int.mul_comm]⟩
  have e : b = d := Int.dvd_antisymm (by omega) (by omega) k1 k2
  subst e
  exact ⟨Int.eq_of_mul_eq_mul_right (by omega) h, rfl⟩

end Go.Proofs.Ytflfjedimcbfeaa
namespace Go.Proofs.Ytflfjedimcbfeaa
open Go.RowKit Go.Sort

def spB (a b c d : Int) : Bool := okB a b && okB c d && decide (cmpI a b c d ≤ 0)

end Go.Proofs.Ytflfjedimcbfeaa
