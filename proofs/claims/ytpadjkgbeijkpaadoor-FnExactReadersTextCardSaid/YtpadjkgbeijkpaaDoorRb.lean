/- READERS: the span of a reading, of both sides; a span widened. -/
import Derived.Test.YtpadjkgbeijkpaaDoorUn
import Derived.Test.YtpadjkgbeijkpaaDoorWf
import Derived.Test.YtpadjkgbeijkpaaDoorNm
import Derived.Test.YtpadjkgbeijkpaaDoorRq
namespace Go.Proofs.YtpadjkgbeijkpaaDoor
open Go.RowKit Go.Sort

/-- The span of a reading. -/
def spnV (n b u : Int) : Value := sp (redP (2 * (n - b) - u) 2) (redQ (2 * (n - b) - u) 2) (redP (2 * (n - b) + u) 2) (redQ (2 * (n - b) + u) 2)
theorem half_eq {m u p q : Int} (hq : 0 < q) (hm1 : -1000060 ≤ m) (hm2 : m ≤ 1000060) (hu1 : 1 ≤ u) (hu2 : u ≤ 20) (hq2 : q ≤ 2) (hp : p * 2 = u * q) :
    (redP (m * q - p * 1) (1 * q) = redP (2 * m - u) 2 ∧ redQ (m * q - p * 1) (1 * q) = redQ (2 * m - u) 2) ∧ (redP (m * q + p * 1) (1 * q) = redP (2 * m + u) 2 ∧ redQ (m * q + p * 1) (1 * q) = redQ (2 * m + u) 2) ∧ okB (redP (2 * m - u) 2) (redQ (2 * m - u) 2) = true ∧ okB (redP (2 * m + u) 2) (redQ (2 * m + u) 2) = true := by
  have o1 : okB (redP (2 * m - u) 2) (redQ (2 * m - u) 2) = true := ok_red (by omega) (by omega) (by omega) (by omega)
  have o2 : okB (redP (2 * m + u) 2) (redQ (2 * m + u) 2) = true := ok_red (by omega) (by omega) (by omega) (by omega)
  rcases (show q = 1 ∨ q = 2 by omega) with rfl | rfl
  · have o3 : okB (redP (m * 1 - p * 1) (1 * 1)) (redQ (m * 1 - p * 1) (1 * 1)) = true := ok_red (by omega) (by omega) (by omega) (by omega)
    have o4 : okB (redP (m * 1 + p * 1) (1 * 1)) (redQ (m * 1 + p * 1) (1 * 1)) = true := ok_red (by omega) (by omega) (by omega) (by omega)
    exact ⟨red_uni (by omega) (by omega) o3 o1 (by omega), red_uni (by omega) (by omega) o4 o2 (by omega), o1, o2⟩
  · have o3 : okB (redP (m * 2 - p * 1) (1 * 2)) (redQ (m * 2 - p * 1) (1 * 2)) = true := ok_red (by omega) (by omega) (by omega) (by omega)
    have o4 : okB (redP (m * 2 + p * 1) (1 * 2)) (redQ (m * 2 + p * 1) (1 * 2)) = true := ok_red (by omega) (by omega) (by omega) (by omega)
    exact ⟨red_uni (by omega) (by omega) o3 o1 (by omega), red_uni (by omega) (by omega) o4 o2 (by omega), o1, o2⟩
theorem half_q {u : Int} (hu1 : 1 ≤ u) (hu2 : u ≤ 20) : okB (redP u 2) (redQ u 2) = true ∧ redQ u 2 ≤ 2 ∧ 0 < redQ u 2 ∧ redP u 2 * 2 = u * redQ u 2 := by
  have ho : okB (redP u 2) (redQ u 2) = true := ok_red (by omega) (by omega) (by omega) (by omega)
  refine ⟨ho, ?_, by have := (okB_bd ho).1; omega, red_mul (by omega)⟩
  have h : redQ u 2 = (2 : Int).tdiv (Int.gcd u 2) := by unfold redQ; rw [if_neg (by omega)]
  rw [h]
  exact Int.le_trans (Int.tdiv_le_self _ (by omega)) (by omega)
theorem sred_ok (p q : Int) (w : World) (hq : q ≠ 0) (p1 : -4000000000000000000 ≤ p) (p2 : p ≤ 4000000000000000000) (q1 : -4000000000000000000 ≤ q) (q2 : q ≤ 4000000000000000000) (hk : okB (redP p q) (redQ p q) = true) :
    Calls Tryd.prog 160 #[.int .i64 p, .int .i64 q] w fun e w' => e = .returned (.tuple #[fr (redP p q) (redQ p q), .int .i64 0]) ∧ Gr w w' :=
  (sred_any p q w hq p1 p2 q1 q2).mono fun e w' ⟨he, hg⟩ => ⟨by rw [he]; unfold rP rQ rC; rw [if_pos hk, if_pos hk, if_pos hk], hg⟩
end Go.Proofs.YtpadjkgbeijkpaaDoor
