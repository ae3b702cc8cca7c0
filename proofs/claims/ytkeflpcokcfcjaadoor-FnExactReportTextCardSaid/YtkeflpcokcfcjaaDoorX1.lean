/- WALKS: verniers and screws: are they valid; how they come from the laws' values. -/
import Derived.Test.YtkeflpcokcfcjaaDoorW
import Derived.Test.YtkeflpcokcfcjaaDoorH
import Derived.Test.YtkeflpcokcfcjaaDoorB1
import Derived.Test.YtkeflpcokcfcjaaDoorMath2
import Derived.Test.YtkeflpcokcfcjaaDoorN
namespace Go.Proofs.YtkeflpcokcfcjaaDoor
open Go.RowKit Go.Sort

/-! a length is at most so long -/
def withinB (a b most : Int) : Bool := okB a b && (decide (0 < a) && decide (a ≤ most * b))
theorem cmp_whole {a b m : Int} : decide (cmpI a b m 1 ≤ 0) = decide (a ≤ m * b) := by
  unfold cmpI
  rw [Int.mul_one]
  by_cases h : a ≤ m * b
  · simp only [h, decide_true, decide_eq_true_eq]
    split
    · omega
    · rw [if_neg (by omega)]; omega
  · simp only [h, decide_false, decide_eq_false_iff_not]
    rw [if_neg (by omega), if_pos (by omega)]; omega
/-! a screw -/
theorem within_ok {a b m : Int} (h : withinB a b m = true) : okB a b = true := by
  unfold withinB at h; simp at h; exact h.1
def scB (a b n c d : Int) : Bool := withinB a b 100 && (inB n 2 100 && (okB c d && (decide (0 ≤ c) && decide (cmpI c d a b ≤ 0))))
end Go.Proofs.YtkeflpcokcfcjaaDoor
namespace Go.Proofs.YtkeflpcokcfcjaaDoor
open Go.RowKit Go.Sort

def n1P (a b t : Int) : Int := redP (t * a) (1 * b)
def n1Q (a b t : Int) : Int := redQ (t * a) (1 * b)
def nP (a b n t : Int) : Int := redP (n1P a b t * 1) (n1Q a b t * n)
def nQ (a b n t : Int) : Int := redQ (n1P a b t * 1) (n1Q a b t * n)
def lP (a b n c d t : Int) : Int := redP (nP a b n t * d - c * nQ a b n t) (nQ a b n t * d)
def lQ (a b n c d t : Int) : Int := redQ (nP a b n t * d - c * nQ a b n t) (nQ a b n t * d)
/-- Can it be told where the nut is? and the least place? -/
def n1B (a b t : Int) : Bool := okB (n1P a b t) (n1Q a b t)
def nB (a b n t : Int) : Bool := okB (nP a b n t) (nQ a b n t)
def lB (a b n c d t : Int) : Bool := okB (lP a b n c d t) (lQ a b n c d t)
theorem ok_whole {t : Int} (h1 : -1000000000 ≤ t) (h2 : t ≤ 1000000000) : okB t 1 = true := by
  rw [okB_iff]; unfold Ok; simp; omega
theorem in_bd {t lo hi : Int} (h : inB t lo hi = true) : lo ≤ t ∧ t ≤ hi := by
  unfold inB at h; simpa using h
theorem in_t (n lo hi : Int) (w : World) (h : inB n lo hi = true) : Calls Tryd.prog 31 #[.int .i64 n, .int .i64 lo, .int .i64 hi] w fun e w' => e = .returned (.bool true) ∧ Gr w w' :=
  (in_any n lo hi w).mono fun e w' ⟨he, hg⟩ => ⟨by rw [he, h], hg ▸ Gr.refl _⟩
theorem in_f (n lo hi : Int) (w : World) (h : inB n lo hi = false) : Calls Tryd.prog 31 #[.int .i64 n, .int .i64 lo, .int .i64 hi] w fun e w' => e = .returned (.bool false) ∧ Gr w w' :=
  (in_any n lo hi w).mono fun e w' ⟨he, hg⟩ => ⟨by rw [he, h], hg ▸ Gr.refl _⟩
/-- Can both ends be told? -/
def eB (a b n c d t : Int) : Bool := n1B a b t && (nB a b n t && lB a b n c d t)
theorem eB_all {a b n c d t : Int} (g : eB a b n c d t = true) : n1B a b t = true ∧ nB a b n t = true ∧ lB a b n c d t = true := by
  unfold eB at g; simpa using g
end Go.Proofs.YtkeflpcokcfcjaaDoor
namespace Go.Proofs.YtkeflpcokcfcjaaDoor
open Go.RowKit Go.Sort

theorem scB_all {a b n c d : Int} (h : scB a b n c d = true) : okB a b = true ∧ okB n 1 = true ∧ n ≠ 0 ∧ okB c d = true ∧ 0 ≤ c := by
  unfold scB at h
  simp only [Bool.and_eq_true, decide_eq_true_eq] at h
  obtain ⟨h1, h2, h3, h4, _⟩ := h
  obtain ⟨i1, i2⟩ := in_bd h2
  exact ⟨within_ok h1, ok_whole (by omega) (by omega), by omega, h3, h4⟩
theorem ends_ok {a b n c d t : Int} (h : scB a b n c d = true) (g : eB a b n c d t = true) : spB (lP a b n c d t) (lQ a b n c d t) (nP a b n t) (nQ a b n t) = true := by
  obtain ⟨_, _, _, h2, hc⟩ := scB_all h
  obtain ⟨_, g2, g3⟩ := eB_all g
  have q1 := (okB_bd g2).1
  have q2 := (okB_bd h2).1
  have := sub_le_red (n := nP a b n t) (m := nQ a b n t) (c := c) (e := d) q1 q2 hc
  have hle : cmpI (lP a b n c d t) (lQ a b n c d t) (nP a b n t) (nQ a b n t) ≤ 0 := by
    unfold cmpI lP lQ
    split
    · omega
    · rw [if_neg (by omega)]; omega
  unfold spB
  unfold lB at g3
  unfold nB at g2
  rw [g2, g3]
  simpa using hle
theorem gt_in' (t m : Int) : inB t (-m) m = !gtB t m := by
  unfold inB gtB
  rw [Bool.eq_iff_iff]
  simp
theorem gtb {t m : Int} (h : gtB t m = false) : -m ≤ t ∧ t ≤ m := by
  have := gt_in' t m
  rw [h] at this
  exact in_bd this
theorem igt_t (t m : Int) (w : World) (h0 : 0 ≤ m) (h1 : m ≤ 9223372036854775807) (h : gtB t m = true) : Calls Tryd.prog 54 #[.int .i64 t, .int .i64 m] w fun e w' => e = .returned (.bool true) ∧ Gr w w' :=
  (gt_any t m w h0 h1).mono fun e w' ⟨he, hg⟩ => ⟨by rw [he, h], hg ▸ Gr.refl _⟩
theorem igt_f (t m : Int) (w : World) (h0 : 0 ≤ m) (h1 : m ≤ 9223372036854775807) (h : gtB t m = false) : Calls Tryd.prog 54 #[.int .i64 t, .int .i64 m] w fun e w' => e = .returned (.bool false) ∧ Gr w w' :=
  (gt_any t m w h0 h1).mono fun e w' ⟨he, hg⟩ => ⟨by rw [he, h], hg ▸ Gr.refl _⟩
/-- Does a spindle stand where it can, its screw and Turned being valid? -/
def stB (a b n c d t p q : Int) : Bool := okB p q && (eB a b n c d t && liesB (lP a b n c d t) (lQ a b n c d t) (nP a b n t) (nQ a b n t) p q)
def sdB (a b n c d t p q : Int) : Bool := scB a b n c d && (inB t (-10000) 10000 && stB a b n c d t p q)
theorem sdB_all {a b n c d t p q : Int} (h : sdB a b n c d t p q = true) : scB a b n c d = true ∧ (-10000 ≤ t ∧ t ≤ 10000) ∧ okB p q = true ∧ eB a b n c d t = true ∧ liesB (lP a b n c d t) (lQ a b n c d t) (nP a b n t) (nQ a b n t) p q = true := by
  unfold sdB stB at h
  simp only [Bool.and_eq_true] at h
  exact ⟨h.1, in_bd h.2.1, h.2.2.1, h.2.2.2.1, h.2.2.2.2⟩
end Go.Proofs.YtkeflpcokcfcjaaDoor
