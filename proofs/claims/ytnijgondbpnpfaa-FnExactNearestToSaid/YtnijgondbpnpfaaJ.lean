/- WALKS: whole parts of fractions; a fraction is looked at. -/
import Derived.Test.YtnijgondbpnpfaaF
import Derived.Test.YtnijgondbpnpfaaB
namespace Go.Proofs.Ytnijgondbpnpfaa
open Go.RowKit Go.Sort

set_option maxHeartbeats 400000 in
theorem sValidFrac (p q : Int) (w : World) :
    Calls Try.prog 25 #[fr p q] w fun e w' => e = .returned (.bool (okB p q)) ∧ Gr w w' := by
  go_enter Try.func25, Try.ntmps25
  go_wp2_with (go_at_call 79; refine (sok_any _ _ _).mono ?_; rintro e w1 ⟨rfl, hg1⟩; have G1 := hid ((Gr.alloc _ _).trans hg1); clear hg1)
  go_ret
  exact ⟨rfl, G1.out⟩

def downI (p q : Int) : Int := if p.tmod q < 0 then p.tdiv q - 1 else p.tdiv q
theorem tmod_bd (p q : Int) (h1 : -4000000000000000000 ≤ p) (h2 : p ≤ 4000000000000000000) : -4000000000000000000 ≤ p.tmod q ∧ p.tmod q ≤ 4000000000000000000 := by
  have e : (p.tmod q).natAbs = p.natAbs % q.natAbs := Int.natAbs_tmod p q
  have := Nat.mod_le p.natAbs q.natAbs
  omega
theorem tdiv_bd' (p q : Int) (h1 : -4000000000000000000 ≤ p) (h2 : p ≤ 4000000000000000000) : -4000000000000000000 ≤ p.tdiv q ∧ p.tdiv q ≤ 4000000000000000000 := by
  have e : (p.tdiv q).natAbs = p.natAbs / q.natAbs := by rw [Int.natAbs_tdiv]; rfl
  have := Nat.div_le_self p.natAbs q.natAbs
  omega

set_option maxHeartbeats 400000 in
theorem sdown (p q : Int) (w : World) (hq : 1 ≤ q) (h1 : -4000000000000000000 ≤ p) (h2 : p ≤ 4000000000000000000) (h3 : q ≤ 4000000000000000000) :
    Calls Try.prog 103 #[.int .i64 p, .int .i64 q] w fun e w' => e = .returned (.int .i64 (downI p q)) ∧ w = w' := by
  obtain ⟨m1, m2⟩ := tmod_bd p q h1 h2
  obtain ⟨d1, d2⟩ := tdiv_bd' p q h1 h2
  have hz : q ≠ 0 := by omega
  unfold downI
  by_cases h : p.tmod q < 0
  · rw [if_pos h]
    by_cases hp : 0 ≤ p
    · exact absurd h (by have := Int.tmod_nonneg q hp; omega)
    · go_enter Try.func103, Try.ntmps103
      go_wp2
      go_ret
      exact ⟨rfl, rfl⟩
  · rw [if_neg h]
    by_cases hp : 0 ≤ p
    · have e1 : p.tdiv q = p / q := Int.tdiv_eq_ediv_of_nonneg hp
      have e2 : p.tmod q = p % q := Int.tmod_eq_emod_of_nonneg hp
      rw [e2] at h m1 m2
      rw [e1] at d1 d2 ⊢
      clear e1 e2
      go_enter Try.func103, Try.ntmps103
      go_wp2
      go_ret
      exact ⟨rfl, rfl⟩
    · go_enter Try.func103, Try.ntmps103
      go_wp2
      go_ret
      exact ⟨rfl, rfl⟩
set_option maxHeartbeats 400000 in
theorem idown (p q : Int) (w : World) (hq : 1 ≤ q) (h1 : -4000000000000000000 ≤ p) (h2 : p ≤ 4000000000000000000) (h3 : q ≤ 4000000000000000000) :
    Calls Try.prog 104 #[.int .i64 p, .int .i64 q] w fun e w' => e = .returned (.int .i64 (downI p q)) ∧ w = w' := by
  obtain ⟨m1, m2⟩ := tmod_bd p q h1 h2
  obtain ⟨d1, d2⟩ := tdiv_bd' p q h1 h2
  have hz : q ≠ 0 := by omega
  unfold downI
  by_cases h : p.tmod q < 0
  · rw [if_pos h]
    by_cases hp : 0 ≤ p
    · exact absurd h (by have := Int.tmod_nonneg q hp; omega)
    · go_enter Try.func104, Try.ntmps104
      go_wp2
      go_ret
      exact ⟨rfl, rfl⟩
  · rw [if_neg h]
    by_cases hp : 0 ≤ p
    · have e1 : p.tdiv q = p / q := Int.tdiv_eq_ediv_of_nonneg hp
      have e2 : p.tmod q = p % q := Int.tmod_eq_emod_of_nonneg hp
      rw [e2] at h m1 m2
      rw [e1] at d1 d2 ⊢
      clear e1 e2
      go_enter Try.func104, Try.ntmps104
      go_wp2
      go_ret
      exact ⟨rfl, rfl⟩
    · go_enter Try.func104, Try.ntmps104
      go_wp2
      go_ret
      exact ⟨rfl, rfl⟩

set_option maxHeartbeats 400000 in
theorem sFloor_no (p q : Int) (w : World) (hk : okB p q = false) :
    Calls Try.prog 45 #[fr p q] w fun e w' => e = .returned (.tuple #[.int .i64 0, .int .i64 1]) ∧ Gr w w' := by
  go_enter Try.func45, Try.ntmps45
  go_wp2_with (go_at_call 79; refine (sok_any _ _ _).mono ?_; rintro e w1 ⟨rfl, hg1⟩; have G1 := hid ((Gr.alloc _ _).trans hg1); clear hg1)
  go_ret2
  exact ⟨rfl, G1.out⟩
set_option maxHeartbeats 400000 in
theorem sFloor_yes (p q : Int) (w : World) (hk : okB p q = true) :
    Calls Try.prog 45 #[fr p q] w fun e w' => e = .returned (.tuple #[.int .i64 (downI p q), .int .i64 0]) ∧ Gr w w' := by
  obtain ⟨b1, b2, b3, b4⟩ : 1 ≤ q ∧ q ≤ 1000000000 ∧ -1000000000 ≤ p ∧ p ≤ 1000000000 := by rw [okB_iff] at hk; unfold Ok at hk; omega
  go_enter Try.func45, Try.ntmps45
  go_wp2_with (first | (go_at_call 79; refine (sok_any _ _ _).mono ?_; rintro e w1 ⟨rfl, hg1⟩; obtain ⟨_, _⟩ := cells2 (alloc1 hg1).1; have G1 := hid ((Gr.alloc _ _).trans hg1); clear hg1) | (go_at_call 103; refine (sdown _ _ _ b1 (by omega) (by omega) (by omega)).mono ?_; rintro e w2 ⟨rfl, rfl⟩))
  go_ret2
  exact ⟨rfl, G1.out⟩
set_option maxHeartbeats 400000 in
theorem iFloor_no (p q : Int) (w : World) (hk : okB p q = false) :
    Calls Try.prog 46 #[fr p q] w fun e w' => e = .returned (.tuple #[.int .i64 0, .int .i64 1]) ∧ Gr w w' := by
  go_enter Try.func46, Try.ntmps46
  go_wp2_with (go_at_call 27; refine (iok_any _ _ _).mono ?_; rintro e w1 ⟨rfl, hg1⟩; have G1 := hid ((Gr.alloc _ _).trans hg1); clear hg1)
  go_ret2
  exact ⟨rfl, G1.out⟩
set_option maxHeartbeats 400000 in
theorem iFloor_yes (p q : Int) (w : World) (hk : okB p q = true) :
    Calls Try.prog 46 #[fr p q] w fun e w' => e = .returned (.tuple #[.int .i64 (downI p q), .int .i64 0]) ∧ Gr w w' := by
  obtain ⟨b1, b2, b3, b4⟩ : 1 ≤ q ∧ q ≤ 1000000000 ∧ -1000000000 ≤ p ∧ p ≤ 1000000000 := by rw [okB_iff] at hk; unfold Ok at hk; omega
  go_enter Try.func46, Try.ntmps46
  go_wp2_with (first | (go_at_call 27; refine (iok_any _ _ _).mono ?_; rintro e w1 ⟨rfl, hg1⟩; obtain ⟨_, _⟩ := cells2 (alloc1 hg1).1; have G1 := hid ((Gr.alloc _ _).trans hg1); clear hg1) | (go_at_call 104; refine (idown _ _ _ b1 (by omega) (by omega) (by omega)).mono ?_; rintro e w2 ⟨rfl, rfl⟩))
  go_ret2
  exact ⟨rfl, G1.out⟩
end Go.Proofs.Ytnijgondbpnpfaa
