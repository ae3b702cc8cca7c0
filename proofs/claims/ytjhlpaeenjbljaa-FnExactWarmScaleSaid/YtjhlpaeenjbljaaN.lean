/- WALKS: fractions are compared. -/
import Derived.Test.YtjhlpaeenjbljaaH
namespace Go.Proofs.Ytjhlpaeenjbljaa
open Go.RowKit Go.Sort

/-- -1, 0 or 1. -/
def cmpI (a b c d : Int) : Int := if a * d < c * b then -1 else if c * b < a * d then 1 else 0

set_option maxHeartbeats 400000 in
theorem scmp_lt (a b c d : Int) (w : World) (q0 : -1000000000000000000 ≤ a * d) (q3 : c * b ≤ 1000000000000000000) (h : a * d < c * b) :
    Calls Try.prog 86 #[fr a b, fr c d] w fun e w' => e = .returned (.int .i64 (-1)) ∧ Gr w w' := by
  go_enter Try.func86, Try.ntmps86
  go_wp2
  go_ret
  exact ⟨rfl, (Gr.alloc _ _).trans (Gr.alloc _ _)⟩
set_option maxHeartbeats 400000 in
theorem scmp_gt (a b c d : Int) (w : World) (q1 : a * d ≤ 1000000000000000000) (q2 : -1000000000000000000 ≤ c * b) (h : c * b < a * d) :
    Calls Try.prog 86 #[fr a b, fr c d] w fun e w' => e = .returned (.int .i64 1) ∧ Gr w w' := by
  go_enter Try.func86, Try.ntmps86
  go_wp2
  go_ret
  exact ⟨rfl, (Gr.alloc _ _).trans (Gr.alloc _ _)⟩
set_option maxHeartbeats 400000 in
theorem scmp_eq (a b c d : Int) (w : World) (q0 : -1000000000000000000 ≤ a * d) (q1 : a * d ≤ 1000000000000000000) (h : ¬ a * d < c * b) (h' : ¬ c * b < a * d) :
    Calls Try.prog 86 #[fr a b, fr c d] w fun e w' => e = .returned (.int .i64 0) ∧ Gr w w' := by
  go_enter Try.func86, Try.ntmps86
  go_wp2
  go_ret
  exact ⟨rfl, (Gr.alloc _ _).trans (Gr.alloc _ _)⟩
theorem scmp (a b c d : Int) (w : World) (q0 : -1000000000000000000 ≤ a * d) (q1 : a * d ≤ 1000000000000000000) (q2 : -1000000000000000000 ≤ c * b) (q3 : c * b ≤ 1000000000000000000) :
    Calls Try.prog 86 #[fr a b, fr c d] w fun e w' => e = .returned (.int .i64 (cmpI a b c d)) ∧ Gr w w' := by
  unfold cmpI
  by_cases h : a * d < c * b
  · rw [if_pos h]; exact scmp_lt a b c d w q0 q3 h
  · rw [if_neg h]
    by_cases h' : c * b < a * d
    · rw [if_pos h']; exact scmp_gt a b c d w q1 q2 h'
    · rw [if_neg h']; exact scmp_eq a b c d w q0 q1 h h'

/-- Each value has one fraction in lowest terms. -/
theorem dvd_of {a b d : Int} (g : Int.gcd a b = 1) (h : b ∣ a * d) : b ∣ d := by
  have h1 : b.natAbs ∣ a.natAbs * d.natAbs := by rw [← Int.natAbs_mul]; exact Int.natAbs_dvd_natAbs.2 h
  have h2 : Nat.Coprime b.natAbs a.natAbs := by
    show Nat.gcd _ _ = 1
    rw [Nat.gcd_comm]; exact g
  exact Int.natAbs_dvd_natAbs.1 (h2.dvd_of_dvd_mul_left h1)
theorem same_of {a b c d : Int} (h1 : Ok a b) (h2 : Ok c d) (h : a * d = c * b) : a = c ∧ b = d := by
  obtain ⟨b1, _, _, _, g1⟩ := h1
  obtain ⟨d1, _, _, _, g2⟩ := h2
  have k1 : b ∣ d := dvd_of g1 ⟨c, by rw [h, Int.mul_comm]⟩
  have k2 : d ∣ b := dvd_of g2 ⟨a, by rw [← h, Int.mul_comm]⟩
  have e : b = d := Int.dvd_antisymm (by omega) (by omega) k1 k2
  subst e
  exact ⟨Int.eq_of_mul_eq_mul_right (by omega) h, rfl⟩

set_option maxHeartbeats 400000 in
theorem iord_same (a b : Int) (w : World) :
    Calls Try.prog 66 #[fr a b, fr a b] w fun e w' => e = .returned (.int .i64 0) ∧ Gr w w' := by
  go_enter Try.func66, Try.ntmps66
  go_wp2
  go_ret
  exact ⟨rfl, (Gr.alloc _ _).trans (Gr.alloc _ _)⟩
set_option maxHeartbeats 400000 in
theorem iord_lt_p (a b c d : Int) (w : World) (hn : ((a : Int) == c) = false) (q0 : -1000000000000000000 ≤ a * d ∧ a * d ≤ 1000000000000000000) (q2 : -1000000000000000000 ≤ c * b ∧ c * b ≤ 1000000000000000000) (h : a * d < c * b) :
    Calls Try.prog 66 #[fr a b, fr c d] w fun e w' => e = .returned (.int .i64 (-1)) ∧ Gr w w' := by
  obtain ⟨_, _⟩ := q0
  obtain ⟨_, _⟩ := q2
  go_enter Try.func66, Try.ntmps66
  go_wp2
  go_ret
  exact ⟨rfl, (Gr.alloc _ _).trans (Gr.alloc _ _)⟩
set_option maxHeartbeats 400000 in
theorem iord_lt_q (a b d : Int) (w : World) (hn : ((b : Int) == d) = false) (q0 : -1000000000000000000 ≤ a * d ∧ a * d ≤ 1000000000000000000) (q2 : -1000000000000000000 ≤ a * b ∧ a * b ≤ 1000000000000000000) (h : a * d < a * b) :
    Calls Try.prog 66 #[fr a b, fr a d] w fun e w' => e = .returned (.int .i64 (-1)) ∧ Gr w w' := by
  obtain ⟨_, _⟩ := q0
  obtain ⟨_, _⟩ := q2
  go_enter Try.func66, Try.ntmps66
  go_wp2
  go_ret
  exact ⟨rfl, (Gr.alloc _ _).trans (Gr.alloc _ _)⟩
set_option maxHeartbeats 400000 in
theorem iord_gt_p (a b c d : Int) (w : World) (hn : ((a : Int) == c) = false) (q0 : -1000000000000000000 ≤ a * d ∧ a * d ≤ 1000000000000000000) (q2 : -1000000000000000000 ≤ c * b ∧ c * b ≤ 1000000000000000000) (h : ¬ a * d < c * b) :
    Calls Try.prog 66 #[fr a b, fr c d] w fun e w' => e = .returned (.int .i64 1) ∧ Gr w w' := by
  obtain ⟨_, _⟩ := q0
  obtain ⟨_, _⟩ := q2
  go_enter Try.func66, Try.ntmps66
  go_wp2
  go_ret
  exact ⟨rfl, (Gr.alloc _ _).trans (Gr.alloc _ _)⟩
set_option maxHeartbeats 400000 in
theorem iord_gt_q (a b d : Int) (w : World) (hn : ((b : Int) == d) = false) (q0 : -1000000000000000000 ≤ a * d ∧ a * d ≤ 1000000000000000000) (q2 : -1000000000000000000 ≤ a * b ∧ a * b ≤ 1000000000000000000) (h : ¬ a * d < a * b) :
    Calls Try.prog 66 #[fr a b, fr a d] w fun e w' => e = .returned (.int .i64 1) ∧ Gr w w' := by
  obtain ⟨_, _⟩ := q0
  obtain ⟨_, _⟩ := q2
  go_enter Try.func66, Try.ntmps66
  go_wp2
  go_ret
  exact ⟨rfl, (Gr.alloc _ _).trans (Gr.alloc _ _)⟩
theorem iord (a b c d : Int) (w : World) (h1 : okB a b = true) (h2 : okB c d = true) :
    Calls Try.prog 66 #[fr a b, fr c d] w fun e w' => e = .returned (.int .i64 (cmpI a b c d)) ∧ Gr w w' := by
  have o1 := okB_iff.1 h1
  have o2 := okB_iff.1 h2
  obtain ⟨b1, b2, b3, b4⟩ := okB_bd h1
  obtain ⟨d1, d2, d3, d4⟩ := okB_bd h2
  have q0 := mul_bd (x := a) (y := d) b3 b4 (by omega) d2
  have q2 := mul_bd (x := c) (y := b) d3 d4 (by omega) b2
  by_cases e : a = c ∧ b = d
  · obtain ⟨rfl, rfl⟩ := e
    have : cmpI a b a b = 0 := by unfold cmpI; simp
    rw [this]
    exact iord_same a b w
  · have hne : a * d ≠ c * b := fun h => e (same_of o1 o2 h)
    by_cases h : a * d < c * b
    · have : cmpI a b c d = -1 := by unfold cmpI; rw [if_pos h]
      rw [this]
      by_cases hc : a = c
      · subst hc
        exact iord_lt_q a b d w (by simpa using fun hb => e ⟨rfl, hb⟩) q0 q2 h
      · exact iord_lt_p a b c d w (by simpa using hc) q0 q2 h
    · have : cmpI a b c d = 1 := by unfold cmpI; rw [if_neg h, if_pos (by omega)]
      rw [this]
      by_cases hc : a = c
      · subst hc
        exact iord_gt_q a b d w (by simpa using fun hb => e ⟨rfl, hb⟩) q0 q2 h
      · exact iord_gt_p a b c d w (by simpa using hc) q0 q2 h
end Go.Proofs.Ytjhlpaeenjbljaa
namespace Go.Proofs.Ytjhlpaeenjbljaa
open Go.RowKit Go.Sort

def spB (a b c d : Int) : Bool := okB a b && okB c d && decide (cmpI a b c d ≤ 0)

end Go.Proofs.Ytjhlpaeenjbljaa
