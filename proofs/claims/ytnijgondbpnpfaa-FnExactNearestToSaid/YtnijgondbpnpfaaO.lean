/- WALKS: CompareFracs, of the program and of the reference. -/
import Derived.Test.YtnijgondbpnpfaaN
namespace Go.Proofs.Ytnijgondbpnpfaa
open Go.RowKit Go.Sort

set_option maxHeartbeats 400000 in
theorem sCompare_no (a b c d : Int) (w : World) (hk : (okB a b && okB c d) = false) :
    Calls Try.prog 41 #[fr a b, fr c d] w fun e w' => e = .returned (.tuple #[.int .i64 0, .int .i64 1]) ∧ Gr w w' := by
  go_enter Try.func41, Try.ntmps41
  go_wp2_with fail
  refine (stwo _ _ _ _ _).mono ?_
  rintro e w1 ⟨rfl, hg1⟩
  rw [hk]
  obtain ⟨_, _, _, G1⟩ := alloc2 hg1
  have G1 := hid G1
  clear hg1
  simp only [Bool.false_eq_true, reduceIte]
  go_wp2
  go_ret2
  exact ⟨rfl, G1.out⟩
set_option maxHeartbeats 400000 in
theorem sCompare_yes (a b c d : Int) (w : World) (hk : (okB a b && okB c d) = true) :
    Calls Try.prog 41 #[fr a b, fr c d] w fun e w' => e = .returned (.tuple #[.int .i64 (cmpI a b c d), .int .i64 0]) ∧ Gr w w' := by
  obtain ⟨k1, k2⟩ : okB a b = true ∧ okB c d = true := by simpa using hk
  obtain ⟨b1, b2, b3, b4⟩ := okB_bd k1
  obtain ⟨d1, d2, d3, d4⟩ := okB_bd k2
  have q0 := mul_bd (x := a) (y := d) b3 b4 (by omega) d2
  have q2 := mul_bd (x := c) (y := b) d3 d4 (by omega) b2
  clear k1 k2
  go_enter Try.func41, Try.ntmps41
  go_wp2_with fail
  refine (stwo _ _ _ _ _).mono ?_
  rintro e w1 ⟨rfl, hg1⟩
  rw [hk]
  obtain ⟨x0, x1, _, G1⟩ := alloc2 hg1
  obtain ⟨_, _⟩ := cells2 x0
  obtain ⟨_, _⟩ := cells2 x1
  have G1 := hid G1
  clear hg1 x0 x1
  simp only [reduceIte]
  go_wp2_with fail
  refine (scmp _ _ _ _ _ q0.1 q0.2 q2.1 q2.2).mono ?_
  rintro e w2 ⟨rfl, hg2⟩
  have G2 := hid (G1.out.trans hg2)
  clear hg2
  go_wp2
  go_ret2
  exact ⟨rfl, G2.out⟩
set_option maxHeartbeats 400000 in
theorem iCompare_n1 (a b c d : Int) (w : World) (h1 : okB a b = false) :
    Calls Try.prog 42 #[fr a b, fr c d] w fun e w' => e = .returned (.tuple #[.int .i64 0, .int .i64 1]) ∧ Gr w w' := by
  go_enter Try.func42, Try.ntmps42
  go_wp2_with (go_at_call 27; refine (iok_any _ _ _).mono ?_; rintro e w1 ⟨rfl, hg1⟩; obtain ⟨_, _, _, G1⟩ := alloc2 hg1; have G1 := hid G1; clear hg1)
  go_ret2
  exact ⟨rfl, G1.out⟩
set_option maxHeartbeats 400000 in
theorem iCompare_n2 (a b c d : Int) (w : World) (h1 : okB a b = true) (h2 : okB c d = false) :
    Calls Try.prog 42 #[fr a b, fr c d] w fun e w' => e = .returned (.tuple #[.int .i64 0, .int .i64 1]) ∧ Gr w w' := by
  go_enter Try.func42, Try.ntmps42
  go_wp2_with fail
  refine (iok_any _ _ _).mono ?_
  rintro e w1 ⟨rfl, hg1⟩
  obtain ⟨_, x1, _, G1⟩ := alloc2 hg1
  obtain ⟨_, _⟩ := cells2 x1
  have G1 := hid G1
  clear hg1 x1
  go_wp2_with fail
  refine (iok_any _ _ _).mono ?_
  rintro e w2 ⟨rfl, hg2⟩
  have G2 := hid (G1.out.trans hg2)
  clear hg2
  go_wp2
  go_ret2
  exact ⟨rfl, G2.out⟩
set_option maxHeartbeats 400000 in
theorem iCompare_yes (a b c d : Int) (w : World) (h1 : okB a b = true) (h2 : okB c d = true) :
    Calls Try.prog 42 #[fr a b, fr c d] w fun e w' => e = .returned (.tuple #[.int .i64 (cmpI a b c d), .int .i64 0]) ∧ Gr w w' := by
  go_enter Try.func42, Try.ntmps42
  go_wp2_with fail
  refine (iok_any _ _ _).mono ?_
  rintro e w1 ⟨rfl, hg1⟩
  obtain ⟨x0, x1, _, G1⟩ := alloc2 hg1
  obtain ⟨_, _⟩ := cells2 x1
  have X0 := hid x0; have X1 := hid x1; have G1 := hid G1
  clear hg1 x0 x1
  go_wp2_with fail
  refine (iok_any _ _ _).mono ?_
  rintro e w2 ⟨rfl, hg2⟩
  obtain ⟨_, _⟩ := cells2 (hg2.keep X0.out)
  obtain ⟨_, _⟩ := cells2 (hg2.keep X1.out)
  have G2 := hid (G1.out.trans hg2)
  clear hg2
  go_wp2_with fail
  refine (iord _ _ _ _ _ h1 h2).mono ?_
  rintro e w3 ⟨rfl, hg3⟩
  have G3 := hid (G2.out.trans hg3)
  clear hg3
  go_wp2
  go_ret2
  exact ⟨rfl, G3.out⟩
end Go.Proofs.Ytnijgondbpnpfaa
