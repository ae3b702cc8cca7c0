/- WALKS: angles: wrapped, and turned from one to the other; of the program and of the reference. -/
import Derived.Test.YteopkbeokiomlaaF
import Derived.Test.YteopkbeokiomlaaJ
namespace Go.Proofs.Yteopkbeokiomlaa
open Go.RowKit Go.Sort

def wrapI (n : Int) : Int := n % 1296000
def turnI (a b : Int) : Int := if 648000 < (b - a) % 1296000 then (b - a) % 1296000 - 1296000 else (b - a) % 1296000
def angB (n : Int) : Bool := decide (0 ≤ n) && decide (n ≤ 1295999)
theorem wrap_bd (n : Int) : 0 ≤ wrapI n ∧ wrapI n < 1296000 := by unfold wrapI; omega
theorem turn_bd (a b : Int) : -648000 < turnI a b ∧ turnI a b ≤ 648000 := by unfold turnI; split <;> omega
theorem down_div (p q : Int) (hq : 1 ≤ q) : downI p q = p / q := by
  unfold downI
  rw [Int.tmod_eq_emod, Int.tdiv_eq_ediv]
  have h1 := Int.emod_nonneg p (show q ≠ 0 by omega)
  have h2 := Int.emod_lt_of_pos p (show 0 < q by omega)
  have h3 : q.sign = 1 := Int.sign_eq_one_of_pos (by omega)
  have h4 : (q.natAbs : Int) = q := by omega
  rw [h3]
  by_cases h : 0 ≤ p ∨ q ∣ p
  · rw [if_pos h, if_pos h, if_neg (by omega)]; omega
  · rw [if_neg h, if_neg h, h4]
    have : p % q ≠ 0 := fun h0 => h (.inr (Int.dvd_of_emod_eq_zero h0))
    rw [if_pos (by omega)]; omega
theorem down_wrap (n : Int) : n - downI n 1296000 * 1296000 = wrapI n := by
  rw [down_div n 1296000 (by omega)]; unfold wrapI; omega
theorem tmod_wrap (n : Int) : (if n.tmod 1296000 < 0 then n.tmod 1296000 + 1296000 else n.tmod 1296000) = wrapI n := by
  unfold wrapI
  rw [Int.tmod_eq_emod]
  by_cases h : 0 ≤ n ∨ (1296000 : Int) ∣ n
  · rw [if_pos h, if_neg (by omega)]; omega
  · rw [if_neg h]
    have : n % 1296000 ≠ 0 := fun h0 => h (.inr (Int.dvd_of_emod_eq_zero h0))
    have e : (((1296000 : Int).natAbs : Nat) : Int) = 1296000 := rfl
    rw [e, if_pos (by omega)]; omega

set_option maxRecDepth 20000 in
set_option maxHeartbeats 400000 in
theorem iwrap (n : Int) (w : World) (h1 : -2000000000000 ≤ n) (h2 : n ≤ 2000000000000) :
    Calls Try.prog 158 #[.int .i64 n] w fun e w' => e = .returned (.int .i64 (wrapI n)) ∧ w = w' := by
  obtain ⟨b1, b2⟩ := wrap_bd n
  have e := down_wrap n
  have E := hid e
  have d1 : -2000002000000 ≤ downI n 1296000 * 1296000 := by omega
  have d2 : downI n 1296000 * 1296000 ≤ 2000002000000 := by omega
  clear e b1 b2
  go_enter Try.func158, Try.ntmps158
  go_wp2_with (go_at_call 198; refine (idown _ _ _ (by omega) (by omega) (by omega) (by omega)).mono ?_; rintro e w1 ⟨rfl, rfl⟩)
  go_ret
  exact ⟨ret_int (by first | exact E.out | omega), rfl⟩
set_option maxRecDepth 20000 in
set_option maxHeartbeats 400000 in
theorem swrap (n : Int) (w : World) (h1 : -2000000000000 ≤ n) (h2 : n ≤ 2000000000000) :
    Calls Try.prog 86 #[.int .i64 n] w fun e w' => e = .returned (.int .i64 (wrapI n)) ∧ w = w' := by
  have e := tmod_wrap n
  obtain ⟨m1, m2⟩ := tmod_bd n 1296000 (by omega) (by omega)
  have E := hid e
  by_cases h : n.tmod 1296000 < 0
  · rw [if_pos h] at e
    clear e
    go_enter Try.func86, Try.ntmps86
    go_wp2
    go_ret
    exact ⟨ret_int (by have := E.out; rw [if_pos h] at this; omega), rfl⟩
  · rw [if_neg h] at e
    clear e
    go_enter Try.func86, Try.ntmps86
    go_wp2
    go_ret
    exact ⟨ret_int (by have := E.out; rw [if_neg (by omega)] at this; omega), rfl⟩

set_option maxRecDepth 20000 in
set_option maxHeartbeats 400000 in
theorem iplus (b n : Int) (w : World) (h1 : -1000000000000 ≤ n) (h2 : n ≤ 1000000000000) (h3 : -1000000000000 ≤ b) (h4 : b ≤ 1000000000000) :
    Calls Try.prog 93 #[.int .i64 b, .int .i64 n] w fun e w' => e = .returned (.int .i64 (wrapI (b + n))) ∧ w = w' := by
  go_enter Try.func93, Try.ntmps93
  go_wp2_with (go_at_call 158; refine (iwrap _ _ (by omega) (by omega)).mono ?_; rintro e w1 ⟨rfl, rfl⟩)
  go_ret
  exact ⟨rfl, rfl⟩
set_option maxRecDepth 20000 in
set_option maxHeartbeats 400000 in
theorem iturn (b c : Int) (w : World) (h1 : -1000000000000 ≤ b) (h2 : b ≤ 1000000000000) (h3 : -1000000000000 ≤ c) (h4 : c ≤ 1000000000000) :
    Calls Try.prog 92 #[.int .i64 b, .int .i64 c] w fun e w' => e = .returned (.int .i64 (turnI b c)) ∧ w = w' := by
  have e : c + -b = c - b := by omega
  obtain ⟨k1, k2⟩ := wrap_bd (c + -b)
  have E : Hid (turnI b c = if 648000 < wrapI (c + -b) then wrapI (c + -b) - 1296000 else wrapI (c + -b)) := by unfold Hid turnI wrapI; rw [e]
  clear e
  by_cases h : 648000 < wrapI (c + -b)
  · go_enter Try.func92, Try.ntmps92
    go_wp2_with (go_at_call 93; refine (iplus _ _ _ (by omega) (by omega) (by omega) (by omega)).mono ?_; rintro e w1 ⟨rfl, rfl⟩)
    go_ret
    exact ⟨ret_int (by have := E.out; rw [if_pos h] at this; omega), rfl⟩
  · go_enter Try.func92, Try.ntmps92
    go_wp2_with (go_at_call 93; refine (iplus _ _ _ (by omega) (by omega) (by omega) (by omega)).mono ?_; rintro e w1 ⟨rfl, rfl⟩)
    go_ret
    exact ⟨ret_int (by have := E.out; rw [if_neg (by omega)] at this; omega), rfl⟩
set_option maxRecDepth 20000 in
set_option maxHeartbeats 400000 in
theorem sturn (b c : Int) (w : World) (h1 : -1000000000000 ≤ b) (h2 : b ≤ 1000000000000) (h3 : -1000000000000 ≤ c) (h4 : c ≤ 1000000000000) :
    Calls Try.prog 87 #[.int .i64 b, .int .i64 c] w fun e w' => e = .returned (.int .i64 (turnI b c)) ∧ w = w' := by
  obtain ⟨k1, k2⟩ := wrap_bd (c - b)
  have E : Hid (turnI b c = if 648000 < wrapI (c - b) then wrapI (c - b) - 1296000 else wrapI (c - b)) := by unfold Hid turnI wrapI; rfl
  by_cases h : 648000 < wrapI (c - b)
  · go_enter Try.func87, Try.ntmps87
    go_wp2_with (go_at_call 86; refine (swrap _ _ (by omega) (by omega)).mono ?_; rintro e w1 ⟨rfl, rfl⟩)
    go_ret
    exact ⟨ret_int (by have := E.out; rw [if_pos h] at this; omega), rfl⟩
  · go_enter Try.func87, Try.ntmps87
    go_wp2_with (go_at_call 86; refine (swrap _ _ (by omega) (by omega)).mono ?_; rintro e w1 ⟨rfl, rfl⟩)
    go_ret
    exact ⟨ret_int (by have := E.out; rw [if_neg (by omega)] at this; omega), rfl⟩
set_option maxHeartbeats 400000 in
theorem iang (n : Int) (w : World) : Calls Try.prog 194 #[.int .i64 n] w fun e w' => e = .returned (.bool (angB n)) ∧ w = w' := by
  unfold angB
  by_cases h1 : 0 ≤ n
  · go_enter Try.func194, Try.ntmps194
    go_wp2
    go_ret
    exact ⟨ret_bool (by simp [h1]; omega), rfl⟩
  · have e : decide (0 ≤ n) = false := by simpa using h1
    rw [e]
    go_enter Try.func194, Try.ntmps194
    go_wp2
    go_ret
    exact ⟨ret_bool (by simp), rfl⟩
theorem ang_bd {n : Int} (h : angB n = true) : 0 ≤ n ∧ n ≤ 1295999 := by unfold angB at h; simpa using h

/-! ### WrapAngle -/
/-! ### TurnFrom -/
end Go.Proofs.Yteopkbeokiomlaa
