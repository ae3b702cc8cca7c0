/- WALKS: fractions are compared. -/
import Derived.Test.YtgfopfomhgfcaaaGreatDoorH
namespace Go.Proofs.YtgfopfomhgfcaaaGreatDoor
open Go.RowKit Go.Sort

/-- -1, 0 or 1. -/
def cmpI (a b c d : Int) : Int := if a * d < c * b then -1 else if c * b < a * d then 1 else 0

set_option maxHeartbeats 400000 in
theorem scmp_lt (a b c d : Int) (w : World) (q0 : -1000000000000000000 ≤ a * d) (q3 : c * b ≤ 1000000000000000000) (h : a * d < c * b) :
    Calls Tryz.prog 107 #[fr a b, fr c d] w fun e w' => e = .returned (.int .i64 (-1)) ∧ Gr w w' := by
  go_enter Tryz.func107, Tryz.ntmps107
  go_wp2
  go_ret
  exact ⟨rfl, (Gr.alloc _ _).trans (Gr.alloc _ _)⟩
set_option maxHeartbeats 400000 in
theorem scmp_gt (a b c d : Int) (w : World) (q1 : a * d ≤ 1000000000000000000) (q2 : -1000000000000000000 ≤ c * b) (h : c * b < a * d) :
    Calls Tryz.prog 107 #[fr a b, fr c d] w fun e w' => e = .returned (.int .i64 1) ∧ Gr w w' := by
  go_enter Tryz.func107, Tryz.ntmps107
  go_wp2
  go_ret
  exact ⟨rfl, (Gr.alloc _ _).trans (Gr.alloc _ _)⟩
set_option maxHeartbeats 400000 in
theorem scmp_eq (a b c d : Int) (w : World) (q0 : -1000000000000000000 ≤ a * d) (q1 : a * d ≤ 1000000000000000000) (h : ¬ a * d < c * b) (h' : ¬ c * b < a * d) :
    Calls Tryz.prog 107 #[fr a b, fr c d] w fun e w' => e = .returned (.int .i64 0) ∧ Gr w w' := by
  go_enter Tryz.func107, Tryz.ntmps107
  go_wp2
  go_ret
  exact ⟨rfl, (Gr.alloc _ _).trans (Gr.alloc _ _)⟩
theorem scmp (a b c d : Int) (w : World) (q0 : -1000000000000000000 ≤ a * d) (q1 : a * d ≤ 1000000000000000000) (q2 : -1000000000000000000 ≤ c * b) (q3 : c * b ≤ 1000000000000000000) :
    Calls Tryz.prog 107 #[fr a b, fr c d] w fun e w' => e = .returned (.int .i64 (cmpI a b c d)) ∧ Gr w w' := by
  unfold cmpI
  by_cases h : a * d < c * b
  · rw [if_pos h]; exact scmp_lt a b c d w q0 q3 h
  · rw [if_neg h]
    by_cases h' : c * b < a * d
    · rw [if_pos h']; exact scmp_gt a b c d w q1 q2 h'
    · rw [if_neg h']; exact scmp_eq a b c d w q0 q1 h h'

/-- Each value has one fraction in lowest terms. -/
theorem dvd_of {a b d : Int} (g : Int.gcd a b = 1) (h : b ∣ a * d) : b ∣ d := by
  have h1 : b.natAbs ∣ a.natAbs * d.natAbs := by rw [← Int.natAbs_mul]; exact Int.natAbs_dvd_natAbs.2 h
  have h2 : Nat.Coprime b.natAbs a.natAbs := by
    show Nat.gcd _ _ = 1
    rw [Nat.gcd_comm]; exact g
  exact Int.natAbs_dvd_natAbs.1 (h2.dvd_of_dvd_mul_left h1)
theorem same_of {a b c d : Int} (h1 : Ok a b) (h2 : Ok c d) (h : a * d = c * b) : a = c ∧ b = d := by
  obtain ⟨b1, _, _, _, g1⟩ := h1
  obtain ⟨d1, _, _, _, g2⟩ := h2
  have k1 : b ∣ d := dvd_of g1 ⟨c, by rw [h, Int.mul_comm]⟩
  have k2 : d ∣ b := dvd_of g2 ⟨a, by rw [← h, Int.mul_comm]⟩
  have e : b = d := Int.dvd_antisymm (by omega) (by omega) k1 k2
  subst e
  exact ⟨Int.eq_of_mul_eq_mul_right (by omega) h, rfl⟩

end Go.Proofs.YtgfopfomhgfcaaaGreatDoor
namespace Go.Proofs.YtgfopfomhgfcaaaGreatDoor
open Go.RowKit Go.Sort

def spB (a b c d : Int) : Bool := okB a b && okB c d && decide (cmpI a b c d ≤ 0)

end Go.Proofs.YtgfopfomhgfcaaaGreatDoor
namespace Go.Proofs.YtgfopfomhgfcaaaGreatDoor
open Go.RowKit Go.Sort

/-- What two sums tell together. -/
def bV (n1 d1 n2 d2 : Int) : Value := if okB (redP n1 d1) (redQ n1 d1) && okB (redP n2 d2) (redQ n2 d2) then .tuple #[sp (redP n1 d1) (redQ n1 d1) (redP n2 d2) (redQ n2 d2), .int .i64 0] else .tuple #[sp 0 0 0 0, .int .i64 3]
theorem bV_form (n1 d1 n2 d2 : Int) : ∃ p q p' q' c : Int, bV n1 d1 n2 d2 = .tuple #[sp p q p' q', .int .i64 c] := by
  unfold bV; split <;> exact ⟨_, _, _, _, _, rfl⟩
end Go.Proofs.YtgfopfomhgfcaaaGreatDoor
namespace Go.Proofs.YtgfopfomhgfcaaaGreatDoor
open Go.RowKit Go.Sort

theorem plus_yes (a b c d : Int) (w : World) (h1 : okB a b = true) (h2 : okB c d = true) (hk : okB (redP (a*d+c*b) (b*d)) (redQ (a*d+c*b) (b*d)) = true) :
    Calls Tryz.prog 173 #[fr a b, fr c d] w fun e w' => e = .returned (fr (redP (a*d+c*b) (b*d)) (redQ (a*d+c*b) (b*d))) ∧ Gr w w' := by
  obtain ⟨b1, b2, b3, b4⟩ := okB_bd h1
  obtain ⟨d1, d2, d3, d4⟩ := okB_bd h2
  exact plus_ok a b c d w b1 b2 b3 b4 d1 d2 d3 d4 hk
theorem plus_no (a b c d : Int) (w : World) (h1 : okB a b = true) (h2 : okB c d = true) (hk : okB (redP (a*d+c*b) (b*d)) (redQ (a*d+c*b) (b*d)) = false) :
    Calls Tryz.prog 173 #[fr a b, fr c d] w fun e w' => (∃ x y, e = .panicked [{ v := .iface 227 (fr x y), recovered := false }]) ∧ Gr w w' := by
  obtain ⟨b1, b2, b3, b4⟩ := okB_bd h1
  obtain ⟨d1, d2, d3, d4⟩ := okB_bd h2
  exact plus_bad a b c d w b1 b2 b3 b4 d1 d2 d3 d4 hk
theorem times_yes (a b c d : Int) (w : World) (h1 : okB a b = true) (h2 : okB c d = true) (hk : okB (redP (a*c) (b*d)) (redQ (a*c) (b*d)) = true) :
    Calls Tryz.prog 190 #[fr a b, fr c d] w fun e w' => e = .returned (fr (redP (a*c) (b*d)) (redQ (a*c) (b*d))) ∧ Gr w w' := by
  obtain ⟨b1, b2, b3, b4⟩ := okB_bd h1
  obtain ⟨d1, d2, d3, d4⟩ := okB_bd h2
  exact times_ok a b c d w b1 b2 b3 b4 d1 d2 d3 d4 hk
theorem times_no (a b c d : Int) (w : World) (h1 : okB a b = true) (h2 : okB c d = true) (hk : okB (redP (a*c) (b*d)) (redQ (a*c) (b*d)) = false) :
    Calls Tryz.prog 190 #[fr a b, fr c d] w fun e w' => (∃ x y, e = .panicked [{ v := .iface 227 (fr x y), recovered := false }]) ∧ Gr w w' := by
  obtain ⟨b1, b2, b3, b4⟩ := okB_bd h1
  obtain ⟨d1, d2, d3, d4⟩ := okB_bd h2
  exact times_bad a b c d w b1 b2 b3 b4 d1 d2 d3 d4 hk
end Go.Proofs.YtgfopfomhgfcaaaGreatDoor
namespace Go.Proofs.YtgfopfomhgfcaaaGreatDoor
open Go.RowKit Go.Sort

theorem iok_t (p q : Int) (w : World) (h : okB p q = true) : Calls Tryz.prog 85 #[fr p q] w fun e w' => e = .returned (.bool true) ∧ Gr w w' :=
  (iok_any p q w).mono fun e w' ⟨he, hg⟩ => ⟨by rw [he, h], hg⟩
theorem iok_f (p q : Int) (w : World) (h : okB p q = false) : Calls Tryz.prog 85 #[fr p q] w fun e w' => e = .returned (.bool false) ∧ Gr w w' :=
  (iok_any p q w).mono fun e w' ⟨he, hg⟩ => ⟨by rw [he, h], hg⟩
theorem spB_ok {a b c d : Int} (h : spB a b c d = true) : okB a b = true ∧ okB c d = true ∧ cmpI a b c d ≤ 0 := by
  unfold spB at h; simpa [and_assoc] using h
end Go.Proofs.YtgfopfomhgfcaaaGreatDoor
namespace Go.Proofs.YtgfopfomhgfcaaaGreatDoor
open Go.RowKit Go.Sort

theorem okB_neg {p q : Int} (h : okB p q = true) : okB (-p) q = true := by
  rw [okB_iff] at *
  unfold Ok at *
  have e : Int.gcd (-p) q = Int.gcd p q := by simp [Int.gcd]
  omega
end Go.Proofs.YtgfopfomhgfcaaaGreatDoor
namespace Go.Proofs.YtgfopfomhgfcaaaGreatDoor
open Go.RowKit Go.Sort

theorem sok_t (p q : Int) (w : World) (h : okB p q = true) : Calls Tryz.prog 89 #[fr p q] w fun e w' => e = .returned (.bool true) ∧ Gr w w' :=
  (sok_any p q w).mono fun e w' ⟨he, hg⟩ => ⟨by rw [he, h], hg⟩
theorem sok_f (p q : Int) (w : World) (h : okB p q = false) : Calls Tryz.prog 89 #[fr p q] w fun e w' => e = .returned (.bool false) ∧ Gr w w' :=
  (sok_any p q w).mono fun e w' ⟨he, hg⟩ => ⟨by rw [he, h], hg⟩
/-! InSpan -/
def liesB (a b c d p q : Int) : Bool := decide (cmpI a b p q ≤ 0) && decide (cmpI p q c d ≤ 0)
end Go.Proofs.YtgfopfomhgfcaaaGreatDoor
