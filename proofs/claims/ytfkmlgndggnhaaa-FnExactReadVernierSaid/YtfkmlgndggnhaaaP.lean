/- WALKS: NearestTo, of the program and of the reference. -/
import Derived.Test.YtfkmlgndggnhaaaO
import Derived.Test.YtfkmlgndggnhaaaJ
import Derived.Test.YtfkmlgndggnhaaaK
namespace Go.Proofs.Ytfkmlgndggnhaaa
open Go.RowKit Go.Sort

def nearI (a b c d : Int) : Int := downI (2 * (a * d) + b * c) (2 * (b * c))
theorem near_bd {a b c d : Int} (h1 : okB a b = true) (h2 : okB c d = true) (hc : 0 < c) :
    (-1000000000000000000 ≤ a * d ∧ a * d ≤ 1000000000000000000) ∧ (1 ≤ b * c ∧ b * c ≤ 1000000000000000000) := by
  obtain ⟨b1, b2, b3, b4⟩ := okB_bd h1
  obtain ⟨d1, d2, d3, d4⟩ := okB_bd h2
  have q2 := mul_bd (x := b) (y := c) (by omega) b2 d3 d4
  have : 0 < b * c := Int.mul_pos (by omega) hc
  exact ⟨mul_bd b3 b4 (by omega) d2, by omega, q2.2⟩

set_option maxHeartbeats 400000 in
theorem sInteger_yes (n : Int) (w : World) (hk : inB n (-1000000000) 1000000000 = true) :
    Calls Try.prog 129 #[.int .i64 n] w fun e w' => e = .returned (.tuple #[.int .i64 n, .int .i64 0]) ∧ w = w' := by
  go_enter Try.func129, Try.ntmps129
  go_wp2_with (go_at_call 64; refine (in_any _ _ _ _).mono ?_; rintro e w1 ⟨rfl, rfl⟩)
  go_ret2
  exact ⟨rfl, rfl⟩
set_option maxHeartbeats 400000 in
theorem sInteger_no (n : Int) (w : World) (hk : inB n (-1000000000) 1000000000 = false) :
    Calls Try.prog 129 #[.int .i64 n] w fun e w' => e = .returned (.tuple #[.int .i64 0, .int .i64 3]) ∧ w = w' := by
  go_enter Try.func129, Try.ntmps129
  go_wp2_with (go_at_call 64; refine (in_any _ _ _ _).mono ?_; rintro e w1 ⟨rfl, rfl⟩)
  go_ret2
  exact ⟨rfl, rfl⟩
set_option maxHeartbeats 400000 in
theorem sNear (a b c d : Int) (w : World) (q0 : -1000000000000000000 ≤ a * d) (q1 : a * d ≤ 1000000000000000000) (q2 : 1 ≤ b * c) (q3 : b * c ≤ 1000000000000000000) :
    Calls Try.prog 130 #[fr a b, fr c d] w fun e w' => e = .returned (.int .i64 (nearI a b c d)) ∧ Gr w w' := by
  unfold nearI
  go_enter Try.func130, Try.ntmps130
  go_wp2_with (go_at_call 140; refine (sdown _ _ _ (by omega) (by omega) (by omega) (by omega)).mono ?_; rintro e w1 ⟨rfl, rfl⟩)
  go_ret
  exact ⟨rfl, (Gr.alloc _ _).trans (Gr.alloc _ _)⟩
set_option maxHeartbeats 400000 in
theorem inearDiv (p q : Int) (w : World) (p0 : -1000000000000000000 ≤ p) (p1 : p ≤ 1000000000000000000) (q0 : 1 ≤ q) (q1 : q ≤ 1000000000000000000) :
    Calls Try.prog 141 #[.int .i64 p, .int .i64 q] w fun e w' => e = .returned (.int .i64 (downI (2 * p + q) (2 * q))) ∧ w = w' := by
  go_enter Try.func141, Try.ntmps141
  go_wp2_with (go_at_call 143; refine (idown _ _ _ (by omega) (by omega) (by omega) (by omega)).mono ?_; rintro e w1 ⟨rfl, rfl⟩)
  go_ret
  exact ⟨rfl, rfl⟩
set_option maxRecDepth 20000 in
set_option maxHeartbeats 400000 in
theorem inear_ok (a b c d : Int) (w : World) (q0 : -1000000000000000000 ≤ a * d) (q1 : a * d ≤ 1000000000000000000) (q2 : 1 ≤ b * c) (q3 : b * c ≤ 1000000000000000000) (hn : gtB (nearI a b c d) 1000000000 = false) :
    Calls Try.prog 133 #[fr a b, fr c d] w fun e w' => e = .returned (.int .i64 (nearI a b c d)) ∧ Gr w w' := by
  unfold nearI at *
  have N := hid hn; clear hn
  have hfd : ∀ (x y : Int) (w : World), (Instr.field 29 (fr x y) 0).run Try.prog w = .ok (.int .i64 x) w := fun _ _ _ => by kernel_rfl
  go_enter Try.func133, Try.ntmps133
  go_wp2_with (first | (go_at_call 141; refine (inearDiv _ _ _ (by omega) (by omega) (by omega) (by omega)).mono ?_; rintro e w2 ⟨rfl, rfl⟩) | (go_at_call 68; refine (fit_ok _ _ _ N.out (by decide)).mono ?_; rintro e w2 ⟨rfl, hg2⟩; have G2 := hid ((((Gr.refl w).al _).al _).trans hg2); clear hg2))
  go_ret
  exact ⟨rfl, G2.out⟩
set_option maxRecDepth 20000 in
set_option maxHeartbeats 400000 in
theorem inear_bad (a b c d : Int) (w : World) (q0 : -1000000000000000000 ≤ a * d) (q1 : a * d ≤ 1000000000000000000) (q2 : 1 ≤ b * c) (q3 : b * c ≤ 1000000000000000000) (hn : gtB (nearI a b c d) 1000000000 = true) :
    Calls Try.prog 133 #[fr a b, fr c d] w fun e w' => (∃ x y, e = .panicked [{ v := .iface 125 (fr x y), recovered := false }]) ∧ Gr w w' := by
  unfold nearI at *
  have N := hid hn; clear hn
  go_enter Try.func133, Try.ntmps133
  go_wp2_with (first | (go_at_call 141; refine (inearDiv _ _ _ (by omega) (by omega) (by omega) (by omega)).mono ?_; rintro e w2 ⟨rfl, rfl⟩) | (go_at_call 68; refine (fit_bad _ _ _ (by rw [N.out]; rfl)).mono ?_; rintro e w2 ⟨rfl, hg2⟩; have G2 := hid ((((Gr.refl w).al _).al _).trans hg2); clear hg2))
  exact ⟨rfl, ⟨_, 1, rfl⟩, G2.out⟩
end Go.Proofs.Ytfkmlgndggnhaaa
