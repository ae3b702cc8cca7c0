/- WALKS: the four operations, and the closures in which they are done. -/
import Derived.Test.YtgfopfomhgfcaaaGreatDoorC0
import Derived.Laws.EntriesVeiled
namespace Go.Proofs.YtgfopfomhgfcaaaGreatDoor
open Go.RowKit Go.Sort

set_option maxRecDepth 20000 in
set_option maxHeartbeats 400000 in
theorem plus_ok (a b c d : Int) (w : World) (h1 : 1 ≤ b) (h2 : b ≤ 1000000000) (h3 : -1000000000 ≤ a) (h4 : a ≤ 1000000000) (g1 : 1 ≤ d) (g2 : d ≤ 1000000000) (g3 : -1000000000 ≤ c) (g4 : c ≤ 1000000000) (hk : okB (redP (a*d+c*b) (b*d)) (redQ (a*d+c*b) (b*d)) = true) :
    Calls Tryz.prog 173 #[fr a b, fr c d] w fun e w' => e = .returned (fr (redP (a*d+c*b) (b*d)) (redQ (a*d+c*b) (b*d))) ∧ Gr w w' := by
  have q0 := mul_bd (x := a) (y := d) (by omega) (by omega) (by omega) (by omega); have q1 := mul_bd (x := c) (y := b) (by omega) (by omega) (by omega) (by omega); have q2 := mul_bd (x := b) (y := d) (by omega) (by omega) (by omega) (by omega); have qz : b * d ≠ 0 := Int.mul_ne_zero (by omega) (by omega)
  have K := hid hk; clear hk
  go_enter Tryz.func173, Tryz.ntmps173
  go_wp2_with (go_at_call 191; refine (low_ok _ _ _ qz (by omega) (by omega) (by omega) (by omega) K.out).mono ?_; rintro e w1 ⟨rfl, hg1⟩; obtain ⟨_, _, x2, hz3, G1⟩ := alloc3 hg1; obtain ⟨_, _⟩ := cells2 x2; have _ := fz x2; have G1 := hid G1; clear hg1 x2)
  refine bodyPost_ret (v := fr (redP (a*d+c*b) (b*d)) (redQ (a*d+c*b) (b*d))) (by simp [results, Tryz.results173, go_sem, *]) rfl ⟨rfl, ?_⟩
  exact (G1.out.setCell (by simp; omega) _).setCell (by simp; omega) _
set_option maxRecDepth 20000 in
set_option maxHeartbeats 400000 in
theorem plus_bad (a b c d : Int) (w : World) (h1 : 1 ≤ b) (h2 : b ≤ 1000000000) (h3 : -1000000000 ≤ a) (h4 : a ≤ 1000000000) (g1 : 1 ≤ d) (g2 : d ≤ 1000000000) (g3 : -1000000000 ≤ c) (g4 : c ≤ 1000000000) (hk : okB (redP (a*d+c*b) (b*d)) (redQ (a*d+c*b) (b*d)) = false) :
    Calls Tryz.prog 173 #[fr a b, fr c d] w fun e w' => (∃ x y, e = .panicked [{ v := .iface 227 (fr x y), recovered := false }]) ∧ Gr w w' := by
  have q0 := mul_bd (x := a) (y := d) (by omega) (by omega) (by omega) (by omega); have q1 := mul_bd (x := c) (y := b) (by omega) (by omega) (by omega) (by omega); have q2 := mul_bd (x := b) (y := d) (by omega) (by omega) (by omega) (by omega); have qz : b * d ≠ 0 := Int.mul_ne_zero (by omega) (by omega)
  have K := hid hk; clear hk
  go_enter Tryz.func173, Tryz.ntmps173
  go_wp2_with (go_at_call 191; refine (low_bad _ _ _ qz (by omega) (by omega) (by omega) (by omega) K.out).mono ?_; rintro e w1 ⟨⟨x, y, rfl⟩, hg1⟩; obtain ⟨_, _, x2, hz3, G1⟩ := alloc3 hg1; have G1 := hid G1; clear hg1 x2)
  exact ⟨rfl, ⟨x, y, rfl⟩, G1.out⟩
set_option maxRecDepth 20000 in
set_option maxHeartbeats 400000 in
theorem times_ok (a b c d : Int) (w : World) (h1 : 1 ≤ b) (h2 : b ≤ 1000000000) (h3 : -1000000000 ≤ a) (h4 : a ≤ 1000000000) (g1 : 1 ≤ d) (g2 : d ≤ 1000000000) (g3 : -1000000000 ≤ c) (g4 : c ≤ 1000000000) (hk : okB (redP (a*c) (b*d)) (redQ (a*c) (b*d)) = true) :
    Calls Tryz.prog 190 #[fr a b, fr c d] w fun e w' => e = .returned (fr (redP (a*c) (b*d)) (redQ (a*c) (b*d))) ∧ Gr w w' := by
  have q0 := mul_bd (x := a) (y := c) (by omega) (by omega) (by omega) (by omega); have q2 := mul_bd (x := b) (y := d) (by omega) (by omega) (by omega) (by omega); have qz : b * d ≠ 0 := Int.mul_ne_zero (by omega) (by omega)
  have K := hid hk; clear hk
  go_enter Tryz.func190, Tryz.ntmps190
  go_wp2_with (go_at_call 191; refine (low_ok _ _ _ qz (by omega) (by omega) (by omega) (by omega) K.out).mono ?_; rintro e w1 ⟨rfl, hg1⟩; obtain ⟨_, _, x2, hz3, G1⟩ := alloc3 hg1; obtain ⟨_, _⟩ := cells2 x2; have _ := fz x2; have G1 := hid G1; clear hg1 x2)
  refine bodyPost_ret (v := fr (redP (a*c) (b*d)) (redQ (a*c) (b*d))) (by simp [results, Tryz.results190, go_sem, *]) rfl ⟨rfl, ?_⟩
  exact (G1.out.setCell (by simp; omega) _).setCell (by simp; omega) _
set_option maxRecDepth 20000 in
set_option maxHeartbeats 400000 in
theorem times_bad (a b c d : Int) (w : World) (h1 : 1 ≤ b) (h2 : b ≤ 1000000000) (h3 : -1000000000 ≤ a) (h4 : a ≤ 1000000000) (g1 : 1 ≤ d) (g2 : d ≤ 1000000000) (g3 : -1000000000 ≤ c) (g4 : c ≤ 1000000000) (hk : okB (redP (a*c) (b*d)) (redQ (a*c) (b*d)) = false) :
    Calls Tryz.prog 190 #[fr a b, fr c d] w fun e w' => (∃ x y, e = .panicked [{ v := .iface 227 (fr x y), recovered := false }]) ∧ Gr w w' := by
  have q0 := mul_bd (x := a) (y := c) (by omega) (by omega) (by omega) (by omega); have q2 := mul_bd (x := b) (y := d) (by omega) (by omega) (by omega) (by omega); have qz : b * d ≠ 0 := Int.mul_ne_zero (by omega) (by omega)
  have K := hid hk; clear hk
  go_enter Tryz.func190, Tryz.ntmps190
  go_wp2_with (go_at_call 191; refine (low_bad _ _ _ qz (by omega) (by omega) (by omega) (by omega) K.out).mono ?_; rintro e w1 ⟨⟨x, y, rfl⟩, hg1⟩; obtain ⟨_, _, x2, hz3, G1⟩ := alloc3 hg1; have G1 := hid G1; clear hg1 x2)
  exact ⟨rfl, ⟨x, y, rfl⟩, G1.out⟩
end Go.Proofs.YtgfopfomhgfcaaaGreatDoor
namespace Go.Proofs.YtgfopfomhgfcaaaGreatDoor
open Go.RowKit Go.Sort

set_option maxHeartbeats 400000 in
/-- impl.ValidFrac -/
theorem iok_yes (p q : Int) (w : World) (h1 : 1 ≤ q) (h2 : q ≤ 1000000000) (h3 : -1000000000 ≤ p) (h4 : p ≤ 1000000000) :
    Calls Tryz.prog 85 #[fr p q] w fun e w' => e = .returned (.bool (((Int.gcd p q : Nat) : Int) == 1)) ∧ Gr w w' := by
  go_enter Tryz.func85, Tryz.ntmps85
  go_wp2_with (go_at_call 123; refine (cd_any _ _ _ (by omega) (by omega) (by omega) (by omega)).mono ?_; rintro e w1 ⟨rfl, rfl⟩)
  go_ret
  exact ⟨rfl, Gr.alloc _ _⟩
set_option maxHeartbeats 400000 in
theorem iok_q1 (p q : Int) (w : World) (h1 : q < 1) :
    Calls Tryz.prog 85 #[fr p q] w fun e w' => e = .returned (.bool false) ∧ Gr w w' := by
  go_enter Tryz.func85, Tryz.ntmps85
  go_wp2_with fail
  go_ret
  exact ⟨rfl, Gr.alloc _ _⟩
set_option maxHeartbeats 400000 in
theorem iok_q2 (p q : Int) (w : World) (h1 : 1 ≤ q) (h2 : 1000000000 < q) :
    Calls Tryz.prog 85 #[fr p q] w fun e w' => e = .returned (.bool false) ∧ Gr w w' := by
  go_enter Tryz.func85, Tryz.ntmps85
  go_wp2_with fail
  go_ret
  exact ⟨rfl, Gr.alloc _ _⟩
set_option maxHeartbeats 400000 in
theorem iok_p1 (p q : Int) (w : World) (h1 : 1 ≤ q) (h2 : q ≤ 1000000000) (h3 : p < -1000000000) :
    Calls Tryz.prog 85 #[fr p q] w fun e w' => e = .returned (.bool false) ∧ Gr w w' := by
  go_enter Tryz.func85, Tryz.ntmps85
  go_wp2_with fail
  go_ret
  exact ⟨rfl, Gr.alloc _ _⟩
set_option maxHeartbeats 400000 in
theorem iok_p2 (p q : Int) (w : World) (h1 : 1 ≤ q) (h2 : q ≤ 1000000000) (h3 : -1000000000 ≤ p) (h4 : 1000000000 < p) :
    Calls Tryz.prog 85 #[fr p q] w fun e w' => e = .returned (.bool false) ∧ Gr w w' := by
  go_enter Tryz.func85, Tryz.ntmps85
  go_wp2_with fail
  go_ret
  exact ⟨rfl, Gr.alloc _ _⟩
theorem okB_no {p q : Int} (h : q < 1 ∨ 1000000000 < q ∨ p < -1000000000 ∨ 1000000000 < p) : okB p q = false := by
  rw [okB_false]; unfold Ok; omega
/-- impl.ValidFrac -/
theorem iok_any (p q : Int) (w : World) :
    Calls Tryz.prog 85 #[fr p q] w fun e w' => e = .returned (.bool (okB p q)) ∧ Gr w w' := by
  by_cases h1 : q < 1
  · rw [okB_no (by omega)]; exact iok_q1 p q w h1
  by_cases h2 : 1000000000 < q
  · rw [okB_no (by omega)]; exact iok_q2 p q w (by omega) h2
  by_cases h3 : p < -1000000000
  · rw [okB_no (by omega)]; exact iok_p1 p q w (by omega) (by omega) h3
  by_cases h4 : 1000000000 < p
  · rw [okB_no (by omega)]; exact iok_p2 p q w (by omega) (by omega) (by omega) h4
  have e : okB p q = (((Int.gcd p q : Nat) : Int) == 1) := by
    rw [Bool.eq_iff_iff, okB_iff]; unfold Ok; simp; omega
  rw [e]
  exact iok_yes p q w (by omega) (by omega) (by omega) (by omega)

end Go.Proofs.YtgfopfomhgfcaaaGreatDoor
namespace Go.Proofs.YtgfopfomhgfcaaaGreatDoor
open Go.RowKit Go.Sort

theorem okB_bd {p q : Int} (h : okB p q = true) : 1 ≤ q ∧ q ≤ 1000000000 ∧ -1000000000 ≤ p ∧ p ≤ 1000000000 := by
  rw [okB_iff] at h; unfold Ok at h; omega
end Go.Proofs.YtgfopfomhgfcaaaGreatDoor
