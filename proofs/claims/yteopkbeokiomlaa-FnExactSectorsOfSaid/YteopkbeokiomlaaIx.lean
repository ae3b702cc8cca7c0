/- WALKS: faults that come from sectors, of the reference and of the program. -/
import Derived.Test.YteopkbeokiomlaaIw
namespace Go.Proofs.Yteopkbeokiomlaa
open Go.RowKit Go.Sort

/-- The fault of a mark. -/
def fAt (xs : List Int) (q : Int) : Nat → Int
  | 0 => 0
  | k + 1 => fAt xs q k + shAt xs (clo xs) k - q
def flt (xs : List Int) (q : Int) (n : Nat) : List Int := (List.range n).map (fun k : Nat => fAt xs q k)
theorem flt_len (xs : List Int) (q : Int) (n : Nat) : (flt xs q n).length = n := by simp [flt]
theorem flt_get (xs : List Int) (q : Int) {n k : Nat} (h : k < n) : (flt xs q n)[k]? = some (fAt xs q k) := by simp [flt, h]
theorem flt_succ (xs : List Int) (q : Int) (n : Nat) : flt xs q (n + 1) = flt xs q n ++ [fAt xs q n] := by simp [flt, List.range_succ]
theorem mulk_bd {k e B : Int} (h0 : 0 ≤ k) (h1 : k ≤ 72) (h2 : -B ≤ e) (h3 : e ≤ B) : -(72 * B) ≤ k * e ∧ k * e ≤ 72 * B := by
  have hB : 0 ≤ B := by omega
  have a := Int.mul_le_mul_of_nonneg_left h3 h0
  have b := Int.mul_le_mul_of_nonneg_left h2 h0
  have c := Int.mul_le_mul_of_nonneg_right h1 hB
  rw [Int.mul_neg] at b
  omega
theorem down_bd' (p q B : Int) (h1 : -B ≤ p) (h2 : p ≤ B) : -B - 1 ≤ downI p q ∧ downI p q ≤ B := by
  have e : (p.tdiv q).natAbs = p.natAbs / q.natAbs := by rw [Int.natAbs_tdiv]; rfl
  have := Nat.div_le_self p.natAbs q.natAbs
  unfold downI
  split <;> omega
theorem shAt_bd {xs : List Int} (h1 : 1 ≤ xs.length) (h2 : xs.length ≤ 72) (h3 : xs.all okSec = true) {k : Nat} (hk : k < xs.length) : -90000000000000 ≤ shAt xs (clo xs) k ∧ shAt xs (clo xs) k ≤ 90000000000000 := by
  have hb := clo_bd xs xs.length h3 (Nat.le_refl _)
  rw [List.take_length] at hb
  obtain ⟨p, hp⟩ : ∃ p, xs[k]? = some p := ⟨xs[k], List.getElem?_eq_getElem _⟩
  have hx := allI_get hp h3
  unfold okSec at hx
  simp only [Bool.and_eq_true, decide_eq_true_eq] at hx
  have a := mulk_bd (k := (k : Int) + 1) (e := clo xs) (B := 100000000) (by omega) (by omega) (by omega) (by omega)
  have b := mulk_bd (k := (k : Int)) (e := clo xs) (B := 100000000) (by omega) (by omega) (by omega) (by omega)
  have c := down_bd' _ (xs.length : Int) 7200000000 (by omega) a.2
  have d := down_bd' _ (xs.length : Int) 7200000000 (by omega) b.2
  unfold shAt
  rw [List.getD_eq_getElem?_getD, hp]
  simp only [Option.getD_some]
  omega
theorem fAt_bd {xs : List Int} {q : Int} (h1 : 1 ≤ xs.length) (h2 : xs.length ≤ 72) (h3 : xs.all okSec = true) (q1 : 0 ≤ q) (q2 : q ≤ 1296000) : ∀ k, k ≤ xs.length → -100000000000000 * (k : Int) ≤ fAt xs q k ∧ fAt xs q k ≤ 100000000000000 * (k : Int)
  | 0, _ => by simp [fAt]
  | k + 1, hk => by
    have h := fAt_bd h1 h2 h3 q1 q2 k (by omega)
    have hs := shAt_bd h1 h2 h3 (show k < xs.length by omega)
    simp only [fAt]
    push_cast
    omega

def divB (n : Int) : Bool := (decide (1 ≤ n) && decide (n ≤ 72)) && ((1296000 : Int) % n == 0)
set_option maxRecDepth 20000 in
set_option maxHeartbeats 400000 in
theorem idiv (n : Int) (w : World) : Calls Try.prog 90 #[.int .i64 n] w fun e w' => e = .returned (.bool (divB n)) ∧ w = w' := by
  unfold divB
  by_cases h1 : 1 ≤ n
  · by_cases h2 : n ≤ 72
    · have hz : n ≠ 0 := by omega
      go_enter Try.func90, Try.ntmps90
      go_wp2
      go_ret
      exact ⟨ret_bool (by simp [h1, h2]), rfl⟩
    · have e : decide (n ≤ 72) = false := by simpa using h2
      rw [e]
      go_enter Try.func90, Try.ntmps90
      go_wp2
      go_ret
      exact ⟨ret_bool (by simp), rfl⟩
  · have e : decide (1 ≤ n) = false := by simpa using h1
    rw [e]
    go_enter Try.func90, Try.ntmps90
    go_wp2
    go_ret
    exact ⟨ret_bool (by simp), rfl⟩
theorem q_bd {n : Int} (h : 1 ≤ n) : 0 ≤ (1296000 : Int) / n ∧ (1296000 : Int) / n ≤ 1296000 :=
  ⟨Int.ediv_nonneg (by omega) (by omega), Int.ediv_le_self _ (by omega)⟩

end Go.Proofs.Yteopkbeokiomlaa
