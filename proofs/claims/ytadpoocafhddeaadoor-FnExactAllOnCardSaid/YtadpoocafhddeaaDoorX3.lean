/- WALKS: ValidSpindle and ReadSpindle, of the program and of the reference. -/
import Derived.Test.YtadpoocafhddeaaDoorX2
import Derived.Test.YtadpoocafhddeaaDoorS
namespace Go.Proofs.YtadpoocafhddeaaDoor
open Go.RowKit Go.Sort

theorem scB_all {a b n c d : Int} (h : scB a b n c d = true) : okB a b = true ∧ okB n 1 = true ∧ n ≠ 0 ∧ okB c d = true ∧ 0 ≤ c := by
  unfold scB at h
  simp only [Bool.and_eq_true, decide_eq_true_eq] at h
  obtain ⟨h1, h2, h3, h4, _⟩ := h
  obtain ⟨i1, i2⟩ := in_bd h2
  exact ⟨within_ok h1, ok_whole (by omega) (by omega), by omega, h3, h4⟩
theorem ends_ok {a b n c d t : Int} (h : scB a b n c d = true) (g : eB a b n c d t = true) : spB (lP a b n c d t) (lQ a b n c d t) (nP a b n t) (nQ a b n t) = true := by
  obtain ⟨_, _, _, h2, hc⟩ := scB_all h
  obtain ⟨_, g2, g3⟩ := eB_all g
  have q1 := (okB_bd g2).1
  have q2 := (okB_bd h2).1
  have := sub_le_red (n := nP a b n t) (m := nQ a b n t) (c := c) (e := d) q1 q2 hc
  have hle : cmpI (lP a b n c d t) (lQ a b n c d t) (nP a b n t) (nQ a b n t) ≤ 0 := by
    unfold cmpI lP lQ
    split
    · omega
    · rw [if_neg (by omega)]; omega
  unfold spB
  unfold lB at g3
  unfold nB at g2
  rw [g2, g3]
  simpa using hle
theorem gt_in' (t m : Int) : inB t (-m) m = !gtB t m := by
  unfold inB gtB
  rw [Bool.eq_iff_iff]
  simp
theorem gtb {t m : Int} (h : gtB t m = false) : -m ≤ t ∧ t ≤ m := by
  have := gt_in' t m
  rw [h] at this
  exact in_bd this
/-- Does a spindle stand where it can, its screw and Turned being valid? -/
def stB (a b n c d t p q : Int) : Bool := okB p q && (eB a b n c d t && liesB (lP a b n c d t) (lQ a b n c d t) (nP a b n t) (nQ a b n t) p q)
def sdB (a b n c d t p q : Int) : Bool := scB a b n c d && (inB t (-10000) 10000 && stB a b n c d t p q)
theorem sdB_all {a b n c d t p q : Int} (h : sdB a b n c d t p q = true) : scB a b n c d = true ∧ (-10000 ≤ t ∧ t ≤ 10000) ∧ okB p q = true ∧ eB a b n c d t = true ∧ liesB (lP a b n c d t) (lQ a b n c d t) (nP a b n t) (nQ a b n t) p q = true := by
  unfold sdB stB at h
  simp only [Bool.and_eq_true] at h
  exact ⟨h.1, in_bd h.2.1, h.2.2.1, h.2.2.2.1, h.2.2.2.2⟩
end Go.Proofs.YtadpoocafhddeaaDoor
