/- WALKS: the four operations, and the closures in which they are done. -/
import Derived.Test.YtnbdafecgccojaaD
namespace Go.Proofs.Ytnbdafecgccojaa
open Go.RowKit Go.Sort

set_option maxRecDepth 20000 in
set_option maxHeartbeats 400000 in
theorem plus_ok (a b c d : Int) (w : World) (h1 : 1 ≤ b) (h2 : b ≤ 1000000000) (h3 : -1000000000 ≤ a) (h4 : a ≤ 1000000000) (g1 : 1 ≤ d) (g2 : d ≤ 1000000000) (g3 : -1000000000 ≤ c) (g4 : c ≤ 1000000000) (hk : okB (redP (a*d+c*b) (b*d)) (redQ (a*d+c*b) (b*d)) = true) :
    Calls Try.prog 129 #[fr a b, fr c d] w fun e w' => e = .returned (fr (redP (a*d+c*b) (b*d)) (redQ (a*d+c*b) (b*d))) ∧ Gr w w' := by
  have q0 := mul_bd (x := a) (y := d) (by omega) (by omega) (by omega) (by omega); have q1 := mul_bd (x := c) (y := b) (by omega) (by omega) (by omega) (by omega); have q2 := mul_bd (x := b) (y := d) (by omega) (by omega) (by omega) (by omega); have qz : b * d ≠ 0 := Int.mul_ne_zero (by omega) (by omega)
  have K := hid hk; clear hk
  go_enter Try.func129, Try.ntmps129
  go_wp2_with (go_at_call 206; refine (low_ok _ _ _ qz (by omega) (by omega) (by omega) (by omega) K.out).mono ?_; rintro e w1 ⟨rfl, hg1⟩; obtain ⟨_, _, x2, hz3, G1⟩ := alloc3 hg1; obtain ⟨_, _⟩ := cells2 x2; have _ := fz x2; have G1 := hid G1; clear hg1 x2)
  refine bodyPost_ret (v := fr (redP (a*d+c*b) (b*d)) (redQ (a*d+c*b) (b*d))) (by simp [results, Try.results129, go_sem, *]) rfl ⟨rfl, ?_⟩
  exact (G1.out.setCell (by simp; omega) _).setCell (by simp; omega) _
set_option maxRecDepth 20000 in
set_option maxHeartbeats 400000 in
theorem plus_bad (a b c d : Int) (w : World) (h1 : 1 ≤ b) (h2 : b ≤ 1000000000) (h3 : -1000000000 ≤ a) (h4 : a ≤ 1000000000) (g1 : 1 ≤ d) (g2 : d ≤ 1000000000) (g3 : -1000000000 ≤ c) (g4 : c ≤ 1000000000) (hk : okB (redP (a*d+c*b) (b*d)) (redQ (a*d+c*b) (b*d)) = false) :
    Calls Try.prog 129 #[fr a b, fr c d] w fun e w' => (∃ x y, e = .panicked [{ v := .iface 212 (fr x y), recovered := false }]) ∧ Gr w w' := by
  have q0 := mul_bd (x := a) (y := d) (by omega) (by omega) (by omega) (by omega); have q1 := mul_bd (x := c) (y := b) (by omega) (by omega) (by omega) (by omega); have q2 := mul_bd (x := b) (y := d) (by omega) (by omega) (by omega) (by omega); have qz : b * d ≠ 0 := Int.mul_ne_zero (by omega) (by omega)
  have K := hid hk; clear hk
  go_enter Try.func129, Try.ntmps129
  go_wp2_with (go_at_call 206; refine (low_bad _ _ _ qz (by omega) (by omega) (by omega) (by omega) K.out).mono ?_; rintro e w1 ⟨⟨x, y, rfl⟩, hg1⟩; obtain ⟨_, _, x2, hz3, G1⟩ := alloc3 hg1; have G1 := hid G1; clear hg1 x2)
  exact ⟨rfl, ⟨x, y, rfl⟩, G1.out⟩
set_option maxRecDepth 20000 in
set_option maxHeartbeats 400000 in
theorem minus_ok (a b c d : Int) (w : World) (h1 : 1 ≤ b) (h2 : b ≤ 1000000000) (h3 : -1000000000 ≤ a) (h4 : a ≤ 1000000000) (g1 : 1 ≤ d) (g2 : d ≤ 1000000000) (g3 : -1000000000 ≤ c) (g4 : c ≤ 1000000000) (hk : okB (redP (a*d-c*b) (b*d)) (redQ (a*d-c*b) (b*d)) = true) :
    Calls Try.prog 160 #[fr a b, fr c d] w fun e w' => e = .returned (fr (redP (a*d-c*b) (b*d)) (redQ (a*d-c*b) (b*d))) ∧ Gr w w' := by
  have q0 := mul_bd (x := a) (y := d) (by omega) (by omega) (by omega) (by omega); have q1 := mul_bd (x := c) (y := b) (by omega) (by omega) (by omega) (by omega); have q2 := mul_bd (x := b) (y := d) (by omega) (by omega) (by omega) (by omega); have qz : b * d ≠ 0 := Int.mul_ne_zero (by omega) (by omega)
  have K := hid hk; clear hk
  go_enter Try.func160, Try.ntmps160
  go_wp2_with (go_at_call 206; refine (low_ok _ _ _ qz (by omega) (by omega) (by omega) (by omega) K.out).mono ?_; rintro e w1 ⟨rfl, hg1⟩; obtain ⟨_, _, x2, hz3, G1⟩ := alloc3 hg1; obtain ⟨_, _⟩ := cells2 x2; have _ := fz x2; have G1 := hid G1; clear hg1 x2)
  refine bodyPost_ret (v := fr (redP (a*d-c*b) (b*d)) (redQ (a*d-c*b) (b*d))) (by simp [results, Try.results160, go_sem, *]) rfl ⟨rfl, ?_⟩
  exact (G1.out.setCell (by simp; omega) _).setCell (by simp; omega) _
set_option maxRecDepth 20000 in
set_option maxHeartbeats 400000 in
theorem minus_bad (a b c d : Int) (w : World) (h1 : 1 ≤ b) (h2 : b ≤ 1000000000) (h3 : -1000000000 ≤ a) (h4 : a ≤ 1000000000) (g1 : 1 ≤ d) (g2 : d ≤ 1000000000) (g3 : -1000000000 ≤ c) (g4 : c ≤ 1000000000) (hk : okB (redP (a*d-c*b) (b*d)) (redQ (a*d-c*b) (b*d)) = false) :
    Calls Try.prog 160 #[fr a b, fr c d] w fun e w' => (∃ x y, e = .panicked [{ v := .iface 212 (fr x y), recovered := false }]) ∧ Gr w w' := by
  have q0 := mul_bd (x := a) (y := d) (by omega) (by omega) (by omega) (by omega); have q1 := mul_bd (x := c) (y := b) (by omega) (by omega) (by omega) (by omega); have q2 := mul_bd (x := b) (y := d) (by omega) (by omega) (by omega) (by omega); have qz : b * d ≠ 0 := Int.mul_ne_zero (by omega) (by omega)
  have K := hid hk; clear hk
  go_enter Try.func160, Try.ntmps160
  go_wp2_with (go_at_call 206; refine (low_bad _ _ _ qz (by omega) (by omega) (by omega) (by omega) K.out).mono ?_; rintro e w1 ⟨⟨x, y, rfl⟩, hg1⟩; obtain ⟨_, _, x2, hz3, G1⟩ := alloc3 hg1; have G1 := hid G1; clear hg1 x2)
  exact ⟨rfl, ⟨x, y, rfl⟩, G1.out⟩
set_option maxRecDepth 20000 in
set_option maxHeartbeats 400000 in
theorem times_ok (a b c d : Int) (w : World) (h1 : 1 ≤ b) (h2 : b ≤ 1000000000) (h3 : -1000000000 ≤ a) (h4 : a ≤ 1000000000) (g1 : 1 ≤ d) (g2 : d ≤ 1000000000) (g3 : -1000000000 ≤ c) (g4 : c ≤ 1000000000) (hk : okB (redP (a*c) (b*d)) (redQ (a*c) (b*d)) = true) :
    Calls Try.prog 130 #[fr a b, fr c d] w fun e w' => e = .returned (fr (redP (a*c) (b*d)) (redQ (a*c) (b*d))) ∧ Gr w w' := by
  have q0 := mul_bd (x := a) (y := c) (by omega) (by omega) (by omega) (by omega); have q2 := mul_bd (x := b) (y := d) (by omega) (by omega) (by omega) (by omega); have qz : b * d ≠ 0 := Int.mul_ne_zero (by omega) (by omega)
  have K := hid hk; clear hk
  go_enter Try.func130, Try.ntmps130
  go_wp2_with (go_at_call 206; refine (low_ok _ _ _ qz (by omega) (by omega) (by omega) (by omega) K.out).mono ?_; rintro e w1 ⟨rfl, hg1⟩; obtain ⟨_, _, x2, hz3, G1⟩ := alloc3 hg1; obtain ⟨_, _⟩ := cells2 x2; have _ := fz x2; have G1 := hid G1; clear hg1 x2)
  refine bodyPost_ret (v := fr (redP (a*c) (b*d)) (redQ (a*c) (b*d))) (by simp [results, Try.results130, go_sem, *]) rfl ⟨rfl, ?_⟩
  exact (G1.out.setCell (by simp; omega) _).setCell (by simp; omega) _
set_option maxRecDepth 20000 in
set_option maxHeartbeats 400000 in
theorem times_bad (a b c d : Int) (w : World) (h1 : 1 ≤ b) (h2 : b ≤ 1000000000) (h3 : -1000000000 ≤ a) (h4 : a ≤ 1000000000) (g1 : 1 ≤ d) (g2 : d ≤ 1000000000) (g3 : -1000000000 ≤ c) (g4 : c ≤ 1000000000) (hk : okB (redP (a*c) (b*d)) (redQ (a*c) (b*d)) = false) :
    Calls Try.prog 130 #[fr a b, fr c d] w fun e w' => (∃ x y, e = .panicked [{ v := .iface 212 (fr x y), recovered := false }]) ∧ Gr w w' := by
  have q0 := mul_bd (x := a) (y := c) (by omega) (by omega) (by omega) (by omega); have q2 := mul_bd (x := b) (y := d) (by omega) (by omega) (by omega) (by omega); have qz : b * d ≠ 0 := Int.mul_ne_zero (by omega) (by omega)
  have K := hid hk; clear hk
  go_enter Try.func130, Try.ntmps130
  go_wp2_with (go_at_call 206; refine (low_bad _ _ _ qz (by omega) (by omega) (by omega) (by omega) K.out).mono ?_; rintro e w1 ⟨⟨x, y, rfl⟩, hg1⟩; obtain ⟨_, _, x2, hz3, G1⟩ := alloc3 hg1; have G1 := hid G1; clear hg1 x2)
  exact ⟨rfl, ⟨x, y, rfl⟩, G1.out⟩
set_option maxRecDepth 20000 in
set_option maxHeartbeats 400000 in
theorem over_ok (a b c d : Int) (w : World) (h1 : 1 ≤ b) (h2 : b ≤ 1000000000) (h3 : -1000000000 ≤ a) (h4 : a ≤ 1000000000) (g1 : 1 ≤ d) (g2 : d ≤ 1000000000) (g3 : -1000000000 ≤ c) (g4 : c ≤ 1000000000) (hz : c ≠ 0) (hk : okB (redP (a*d) (b*c)) (redQ (a*d) (b*c)) = true) :
    Calls Try.prog 230 #[fr a b, fr c d] w fun e w' => e = .returned (fr (redP (a*d) (b*c)) (redQ (a*d) (b*c))) ∧ Gr w w' := by
  have q0 := mul_bd (x := a) (y := d) (by omega) (by omega) (by omega) (by omega); have q2 := mul_bd (x := b) (y := c) (by omega) (by omega) (by omega) (by omega); have qz : b * c ≠ 0 := Int.mul_ne_zero (by omega) hz
  have K := hid hk; clear hk
  have hzb : ((c : Int) == 0) = false := by simpa using hz
  go_enter Try.func230, Try.ntmps230
  go_wp2_with (go_at_call 206; refine (low_ok _ _ _ qz (by omega) (by omega) (by omega) (by omega) K.out).mono ?_; rintro e w1 ⟨rfl, hg1⟩; obtain ⟨_, _, x2, hz3, G1⟩ := alloc3 hg1; obtain ⟨_, _⟩ := cells2 x2; have _ := fz x2; have G1 := hid G1; clear hg1 x2)
  refine bodyPost_ret (v := fr (redP (a*d) (b*c)) (redQ (a*d) (b*c))) (by simp [results, Try.results230, go_sem, *]) rfl ⟨rfl, ?_⟩
  exact (G1.out.setCell (by simp; omega) _).setCell (by simp; omega) _
set_option maxRecDepth 20000 in
set_option maxHeartbeats 400000 in
theorem over_bad (a b c d : Int) (w : World) (h1 : 1 ≤ b) (h2 : b ≤ 1000000000) (h3 : -1000000000 ≤ a) (h4 : a ≤ 1000000000) (g1 : 1 ≤ d) (g2 : d ≤ 1000000000) (g3 : -1000000000 ≤ c) (g4 : c ≤ 1000000000) (hz : c ≠ 0) (hk : okB (redP (a*d) (b*c)) (redQ (a*d) (b*c)) = false) :
    Calls Try.prog 230 #[fr a b, fr c d] w fun e w' => (∃ x y, e = .panicked [{ v := .iface 212 (fr x y), recovered := false }]) ∧ Gr w w' := by
  have q0 := mul_bd (x := a) (y := d) (by omega) (by omega) (by omega) (by omega); have q2 := mul_bd (x := b) (y := c) (by omega) (by omega) (by omega) (by omega); have qz : b * c ≠ 0 := Int.mul_ne_zero (by omega) hz
  have K := hid hk; clear hk
  have hzb : ((c : Int) == 0) = false := by simpa using hz
  go_enter Try.func230, Try.ntmps230
  go_wp2_with (go_at_call 206; refine (low_bad _ _ _ qz (by omega) (by omega) (by omega) (by omega) K.out).mono ?_; rintro e w1 ⟨⟨x, y, rfl⟩, hg1⟩; obtain ⟨_, _, x2, hz3, G1⟩ := alloc3 hg1; have G1 := hid G1; clear hg1 x2)
  exact ⟨rfl, ⟨x, y, rfl⟩, G1.out⟩
set_option maxRecDepth 20000 in
set_option maxHeartbeats 400000 in
theorem over_zero (a b d : Int) (w : World) :
    Calls Try.prog 230 #[fr a b, fr 0 d] w fun e w' => (∃ x y, e = .panicked [{ v := .iface 256 (fr x y), recovered := false }]) ∧ Gr w w' := by
  go_enter Try.func230, Try.ntmps230
  go_wp2_with fail
  exact ⟨rfl, ⟨a, b, rfl⟩, ((Gr.alloc _ _).trans (Gr.alloc _ _)).trans (Gr.alloc _ _)⟩
end Go.Proofs.Ytnbdafecgccojaa
