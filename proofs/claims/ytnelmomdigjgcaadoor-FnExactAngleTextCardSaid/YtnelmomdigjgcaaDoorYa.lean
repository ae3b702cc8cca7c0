/- WALKS: angles: wrapped, and turned from one to the other; of the program and of the reference. -/
import Derived.Test.YtnelmomdigjgcaaDoorE
import Derived.Test.YtnelmomdigjgcaaDoorJ
namespace Go.Proofs.YtnelmomdigjgcaaDoor
open Go.RowKit Go.Sort

def wrapI (n : Int) : Int := n % 1296000
def turnI (a b : Int) : Int := if 648000 < (b - a) % 1296000 then (b - a) % 1296000 - 1296000 else (b - a) % 1296000
def angB (n : Int) : Bool := decide (0 ≤ n) && decide (n ≤ 1295999)
theorem wrap_bd (n : Int) : 0 ≤ wrapI n ∧ wrapI n < 1296000 := by unfold wrapI; omega
theorem turn_bd (a b : Int) : -648000 < turnI a b ∧ turnI a b ≤ 648000 := by unfold turnI; split <;> omega
theorem down_div (p q : Int) (hq : 1 ≤ q) : downI p q = p / q := by
  unfold downI
  rw [Int.tmod_eq_emod, Int.tdiv_eq_ediv]
  have h1 := Int.emod_nonneg p (show q ≠ 0 by omega)
  have h2 := Int.emod_lt_of_pos p (show 0 < q by omega)
  have h3 : q.sign = 1 := Int.sign_eq_one_of_pos (by omega)
  have h4 : (q.natAbs : Int) = q := by omega
  rw [h3]
  by_cases h : 0 ≤ p ∨ q ∣ p
  · rw [if_pos h, if_pos h, if_neg (by omega)]; omega
  · rw [if_neg h, if_neg h, h4]
    have : p % q ≠ 0 := fun h0 => h (.inr (Int.dvd_of_emod_eq_zero h0))
    rw [if_pos (by omega)]; omega
theorem down_wrap (n : Int) : n - downI n 1296000 * 1296000 = wrapI n := by
  rw [down_div n 1296000 (by omega)]; unfold wrapI; omega
theorem tmod_wrap (n : Int) : (if n.tmod 1296000 < 0 then n.tmod 1296000 + 1296000 else n.tmod 1296000) = wrapI n := by
  unfold wrapI
  rw [Int.tmod_eq_emod]
  by_cases h : 0 ≤ n ∨ (1296000 : Int) ∣ n
  · rw [if_pos h, if_neg (by omega)]; omega
  · rw [if_neg h]
    have : n % 1296000 ≠ 0 := fun h0 => h (.inr (Int.dvd_of_emod_eq_zero h0))
    have e : (((1296000 : Int).natAbs : Nat) : Int) = 1296000 := rfl
    rw [e, if_pos (by omega)]; omega

set_option maxHeartbeats 400000 in
theorem iang (n : Int) (w : World) : Calls Tryd.prog 31 #[.int .i64 n] w fun e w' => e = .returned (.bool (angB n)) ∧ w = w' := by
  unfold angB
  by_cases h1 : 0 ≤ n
  · go_enter Tryd.func31, Tryd.ntmps31
    go_wp2
    go_ret
    exact ⟨ret_bool (by simp [h1]; omega), rfl⟩
  · have e : decide (0 ≤ n) = false := by simpa using h1
    rw [e]
    go_enter Tryd.func31, Tryd.ntmps31
    go_wp2
    go_ret
    exact ⟨ret_bool (by simp), rfl⟩
set_option maxHeartbeats 400000 in
theorem sang (n : Int) (w : World) : Calls Tryd.prog 28 #[.int .i64 n] w fun e w' => e = .returned (.bool (angB n)) ∧ w = w' := by
  go_enter Tryd.func28, Tryd.ntmps28
  go_wp2_with (go_at_call 68; refine (in_any _ _ _ _).mono ?_; rintro e w1 ⟨rfl, rfl⟩)
  go_ret
  exact ⟨ret_bool rfl, rfl⟩
theorem ang_bd {n : Int} (h : angB n = true) : 0 ≤ n ∧ n ≤ 1295999 := by unfold angB at h; simpa using h

/-! ### WrapAngle -/
/-! ### TurnFrom -/
end Go.Proofs.YtnelmomdigjgcaaDoor
