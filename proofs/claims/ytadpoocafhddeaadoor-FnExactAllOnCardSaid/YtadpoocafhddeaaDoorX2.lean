/- WALKS: where the nut of a spindle is, and between what it stands; of the program and of the reference. -/
import Derived.Test.YtadpoocafhddeaaDoorX1
import Derived.Test.YtadpoocafhddeaaDoorMath2
namespace Go.Proofs.YtadpoocafhddeaaDoor
open Go.RowKit Go.Sort

def n1P (a b t : Int) : Int := redP (t * a) (1 * b)
def n1Q (a b t : Int) : Int := redQ (t * a) (1 * b)
def nP (a b n t : Int) : Int := redP (n1P a b t * 1) (n1Q a b t * n)
def nQ (a b n t : Int) : Int := redQ (n1P a b t * 1) (n1Q a b t * n)
def lP (a b n c d t : Int) : Int := redP (nP a b n t * d - c * nQ a b n t) (nQ a b n t * d)
def lQ (a b n c d t : Int) : Int := redQ (nP a b n t * d - c * nQ a b n t) (nQ a b n t * d)
/-- Can it be told where the nut is? and the least place? -/
def n1B (a b t : Int) : Bool := okB (n1P a b t) (n1Q a b t)
def nB (a b n t : Int) : Bool := okB (nP a b n t) (nQ a b n t)
def lB (a b n c d t : Int) : Bool := okB (lP a b n c d t) (lQ a b n c d t)
theorem ok_whole {t : Int} (h1 : -1000000000 ≤ t) (h2 : t ≤ 1000000000) : okB t 1 = true := by
  rw [okB_iff]; unfold Ok; simp; omega
theorem in_bd {t lo hi : Int} (h : inB t lo hi = true) : lo ≤ t ∧ t ≤ hi := by
  unfold inB at h; simpa using h
theorem in_t (n lo hi : Int) (w : World) (h : inB n lo hi = true) : Calls Tryd.prog 67 #[.int .i64 n, .int .i64 lo, .int .i64 hi] w fun e w' => e = .returned (.bool true) ∧ Gr w w' :=
  (in_any n lo hi w).mono fun e w' ⟨he, hg⟩ => ⟨by rw [he, h], hg ▸ Gr.refl _⟩
theorem in_f (n lo hi : Int) (w : World) (h : inB n lo hi = false) : Calls Tryd.prog 67 #[.int .i64 n, .int .i64 lo, .int .i64 hi] w fun e w' => e = .returned (.bool false) ∧ Gr w w' :=
  (in_any n lo hi w).mono fun e w' ⟨he, hg⟩ => ⟨by rw [he, h], hg ▸ Gr.refl _⟩
/-- Can both ends be told? -/
def eB (a b n c d t : Int) : Bool := n1B a b t && (nB a b n t && lB a b n c d t)
theorem eB_all {a b n c d t : Int} (g : eB a b n c d t = true) : n1B a b t = true ∧ nB a b n t = true ∧ lB a b n c d t = true := by
  unfold eB at g; simpa using g
end Go.Proofs.YtadpoocafhddeaaDoor
