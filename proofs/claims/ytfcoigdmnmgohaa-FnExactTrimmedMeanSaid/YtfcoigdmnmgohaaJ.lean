/- WALKS: whole parts of fractions; a fraction is looked at. -/
import Derived.Test.YtfcoigdmnmgohaaF
import Derived.Test.YtfcoigdmnmgohaaB
namespace Go.Proofs.Ytfcoigdmnmgohaa
open Go.RowKit Go.Sort

def downI (p q : Int) : Int := if p.tmod q < 0 then p.tdiv q - 1 else p.tdiv q
theorem tmod_bd (p q : Int) (h1 : -4000000000000000000 ≤ p) (h2 : p ≤ 4000000000000000000) : -4000000000000000000 ≤ p.tmod q ∧ p.tmod q ≤ 4000000000000000000 := by
  have e : (p.tmod q).natAbs = p.natAbs % q.natAbs := Int.natAbs_tmod p q
  have := Nat.mod_le p.natAbs q.natAbs
  omega
theorem tdiv_bd' (p q : Int) (h1 : -4000000000000000000 ≤ p) (h2 : p ≤ 4000000000000000000) : -4000000000000000000 ≤ p.tdiv q ∧ p.tdiv q ≤ 4000000000000000000 := by
  have e : (p.tdiv q).natAbs = p.natAbs / q.natAbs := by rw [Int.natAbs_tdiv]; rfl
  have := Nat.div_le_self p.natAbs q.natAbs
  omega

set_option maxHeartbeats 400000 in
theorem sdown (p q : Int) (w : World) (hq : 1 ≤ q) (h1 : -4000000000000000000 ≤ p) (h2 : p ≤ 4000000000000000000) (h3 : q ≤ 4000000000000000000) :
    Calls Try.prog 139 #[.int .i64 p, .int .i64 q] w fun e w' => e = .returned (.int .i64 (downI p q)) ∧ w = w' := by
  obtain ⟨m1, m2⟩ := tmod_bd p q h1 h2
  obtain ⟨d1, d2⟩ := tdiv_bd' p q h1 h2
  have hz : q ≠ 0 := by omega
  unfold downI
  by_cases h : p.tmod q < 0
  · rw [if_pos h]
    by_cases hp : 0 ≤ p
    · exact absurd h (by have := Int.tmod_nonneg q hp; omega)
    · go_enter Try.func139, Try.ntmps139
      go_wp2
      go_ret
      exact ⟨rfl, rfl⟩
  · rw [if_neg h]
    by_cases hp : 0 ≤ p
    · have e1 : p.tdiv q = p / q := Int.tdiv_eq_ediv_of_nonneg hp
      have e2 : p.tmod q = p % q := Int.tmod_eq_emod_of_nonneg hp
      rw [e2] at h m1 m2
      rw [e1] at d1 d2 ⊢
      clear e1 e2
      go_enter Try.func139, Try.ntmps139
      go_wp2
      go_ret
      exact ⟨rfl, rfl⟩
    · go_enter Try.func139, Try.ntmps139
      go_wp2
      go_ret
      exact ⟨rfl, rfl⟩
set_option maxHeartbeats 400000 in
theorem idown (p q : Int) (w : World) (hq : 1 ≤ q) (h1 : -4000000000000000000 ≤ p) (h2 : p ≤ 4000000000000000000) (h3 : q ≤ 4000000000000000000) :
    Calls Try.prog 218 #[.int .i64 p, .int .i64 q] w fun e w' => e = .returned (.int .i64 (downI p q)) ∧ w = w' := by
  obtain ⟨m1, m2⟩ := tmod_bd p q h1 h2
  obtain ⟨d1, d2⟩ := tdiv_bd' p q h1 h2
  have hz : q ≠ 0 := by omega
  unfold downI
  by_cases h : p.tmod q < 0
  · rw [if_pos h]
    by_cases hp : 0 ≤ p
    · exact absurd h (by have := Int.tmod_nonneg q hp; omega)
    · go_enter Try.func218, Try.ntmps218
      go_wp2
      go_ret
      exact ⟨rfl, rfl⟩
  · rw [if_neg h]
    by_cases hp : 0 ≤ p
    · have e1 : p.tdiv q = p / q := Int.tdiv_eq_ediv_of_nonneg hp
      have e2 : p.tmod q = p % q := Int.tmod_eq_emod_of_nonneg hp
      rw [e2] at h m1 m2
      rw [e1] at d1 d2 ⊢
      clear e1 e2
      go_enter Try.func218, Try.ntmps218
      go_wp2
      go_ret
      exact ⟨rfl, rfl⟩
    · go_enter Try.func218, Try.ntmps218
      go_wp2
      go_ret
      exact ⟨rfl, rfl⟩

end Go.Proofs.Ytfcoigdmnmgohaa
