/- WALKS: the reference's four operations. -/
import Derived.Test.YtnijgondbpnpfaaH
namespace Go.Proofs.Ytnijgondbpnpfaa
open Go.RowKit Go.Sort

set_option maxHeartbeats 400000 in
theorem sl01Add (a b c d : Int) (w : World) (h1 : 1 ≤ b) (h2 : b ≤ 1000000000) (h3 : -1000000000 ≤ a) (h4 : a ≤ 1000000000) (g1 : 1 ≤ d) (g2 : d ≤ 1000000000) (g3 : -1000000000 ≤ c) (g4 : c ≤ 1000000000) :
    Calls Try.prog 91 #[fr a b, fr c d] w fun e w' => e = .returned (.tuple #[fr (rP (a*d+c*b) (b*d)) (rQ (a*d+c*b) (b*d)), .int .i64 (rC (a*d+c*b) (b*d))]) ∧ Gr w w' := by
  have q0 := mul_bd (x := a) (y := d) (by omega) (by omega) (by omega) (by omega); have q1 := mul_bd (x := c) (y := b) (by omega) (by omega) (by omega) (by omega); have q2 := mul_bd (x := b) (y := d) (by omega) (by omega) (by omega) (by omega); have qz : b * d ≠ 0 := Int.mul_ne_zero (by omega) (by omega)
  go_enter Try.func91, Try.ntmps91
  go_wp2_with fail
  refine (sred_any _ _ _ qz (by omega) (by omega) (by omega) (by omega)).mono ?_
  rintro e w1 ⟨rfl, hg1⟩
  obtain ⟨_, _, x2, _, G1⟩ := alloc3 hg1
  obtain ⟨_, _⟩ := cells2 x2
  have _ := fz x2
  have G1 := hid G1
  clear hg1 x2
  go_wp2
  refine bodyPost_ret (v := .tuple #[fr (rP (a*d+c*b) (b*d)) (rQ (a*d+c*b) (b*d)), .int .i64 (rC (a*d+c*b) (b*d))]) (by simp [results, Try.results91, go_sem, *]) rfl ⟨rfl, ?_⟩
  exact (G1.out.setCell (by simp; omega) _).setCell (by simp; omega) _
set_option maxHeartbeats 400000 in
theorem sAddFracs_inv (a b c d : Int) (w : World) (hk : (okB a b && okB c d) = false) :
    Calls Try.prog 33 #[fr a b, fr c d] w fun e w' => e = .returned (.tuple #[fr 0 0, .int .i64 1]) ∧ Gr w w' := by
  go_enter Try.func33, Try.ntmps33
  go_wp2_with fail
  refine (stwo _ _ _ _ _).mono ?_
  rintro e w1 ⟨rfl, hg1⟩
  rw [hk]
  obtain ⟨x0, x1, x2, _, G1⟩ := alloc3 hg1
  obtain ⟨_, _⟩ := cells2 x0
  obtain ⟨_, _⟩ := cells2 x1
  obtain ⟨_, _⟩ := cells2 x2
  have _ := fz x2
  have X2 := hid x2
  have G1 := hid G1
  clear hg1 x0 x1 x2
  simp only [reduceIte, Bool.false_eq_true]
  go_wp2
  refine bodyPost_ret (v := .tuple #[fr (0) (0), .int .i64 (1)]) (by simp [results, Try.results33, go_sem, *]) rfl ⟨rfl, ?_⟩
  exact (G1.out.setCell (by simp; omega) _).setCell (by simp; omega) _
set_option maxHeartbeats 400000 in
theorem sAddFracs_ok (a b c d : Int) (w : World) (hk : (okB a b && okB c d) = true) :
    Calls Try.prog 33 #[fr a b, fr c d] w fun e w' => e = .returned (.tuple #[fr (rP (a*d+c*b) (b*d)) (rQ (a*d+c*b) (b*d)), .int .i64 (rC (a*d+c*b) (b*d))]) ∧ Gr w w' := by
  obtain ⟨k1, k2⟩ : okB a b = true ∧ okB c d = true := by simpa using hk
  obtain ⟨b1, b2, b3, b4⟩ := okB_bd k1
  obtain ⟨d1, d2, d3, d4⟩ := okB_bd k2
  clear k1 k2
  go_enter Try.func33, Try.ntmps33
  go_wp2_with fail
  refine (stwo _ _ _ _ _).mono ?_
  rintro e w1 ⟨rfl, hg1⟩
  rw [hk]
  obtain ⟨x0, x1, x2, _, G1⟩ := alloc3 hg1
  obtain ⟨_, _⟩ := cells2 x0
  obtain ⟨_, _⟩ := cells2 x1
  obtain ⟨_, _⟩ := cells2 x2
  have _ := fz x2
  have X2 := hid x2
  have G1 := hid G1
  clear hg1 x0 x1 x2
  simp only [reduceIte]
  go_wp2_with fail
  refine (sl01Add _ _ _ _ _ b1 b2 b3 b4 d1 d2 d3 d4).mono ?_
  rintro e w2 ⟨rfl, hg2⟩
  have x2 := hg2.keep X2.out
  obtain ⟨_, _⟩ := cells2 x2
  have _ := fz x2
  have G2 := hid (G1.out.trans hg2)
  clear hg2 x2
  go_wp2
  refine bodyPost_ret (v := .tuple #[fr ((rP (a*d+c*b) (b*d))) ((rQ (a*d+c*b) (b*d))), .int .i64 ((rC (a*d+c*b) (b*d)))]) (by simp [results, Try.results33, go_sem, *]) rfl ⟨rfl, ?_⟩
  exact (G2.out.setCell (by simp; omega) _).setCell (by simp; omega) _
theorem sAddFracs (a b c d : Int) (w : World) :
    Calls Try.prog 33 #[fr a b, fr c d] w fun e w' => e = .returned (.tuple #[fr (oP (okB a b) (okB c d) (a*d+c*b) (b*d)) (oQ (okB a b) (okB c d) (a*d+c*b) (b*d)), .int .i64 (oC (okB a b) (okB c d) (a*d+c*b) (b*d))]) ∧ Gr w w' := by
  unfold oP oQ oC
  cases hk : okB a b && okB c d with
  | false => simpa using sAddFracs_inv a b c d w hk
  | true => simpa using sAddFracs_ok a b c d w hk
set_option maxHeartbeats 400000 in
theorem sl01Sub (a b c d : Int) (w : World) (h1 : 1 ≤ b) (h2 : b ≤ 1000000000) (h3 : -1000000000 ≤ a) (h4 : a ≤ 1000000000) (g1 : 1 ≤ d) (g2 : d ≤ 1000000000) (g3 : -1000000000 ≤ c) (g4 : c ≤ 1000000000) :
    Calls Try.prog 93 #[fr a b, fr c d] w fun e w' => e = .returned (.tuple #[fr (rP (a*d-c*b) (b*d)) (rQ (a*d-c*b) (b*d)), .int .i64 (rC (a*d-c*b) (b*d))]) ∧ Gr w w' := by
  have e : a * d - c * b = a * d + (-c) * b := by rw [Int.neg_mul]; omega
  have E := hid e; clear e
  rw [E.out]
  go_enter Try.func93, Try.ntmps93
  go_wp2_with fail
  go_region_with (first | (go_at_call 140; refine (sneg _ _ _ g3 g4).mono ?_; rintro e w1 ⟨rfl, hg1⟩; obtain ⟨x0, _, x2, _, G1⟩ := alloc3 ((Gr.drew _).trans hg1); have X2 := hid x2; obtain ⟨_, _⟩ := cells2 x0; have G1 := hid G1; clear hg1 x0 x2) | (go_at_call 91; refine (sl01Add a b (-c) d _ h1 h2 h3 h4 g1 g2 (by omega) (by omega)).mono ?_; rintro e w2 ⟨rfl, hg2⟩; have x2 := hg2.keep X2.out; obtain ⟨_, _⟩ := cells2 x2; have _ := fz x2; have G2 := hid (G1.out.trans hg2); clear hg2 x2))
  all_goals
    go_wp2
    refine bodyPost_ret (v := .tuple #[fr (rP (a * d + (-c) * b) (b * d)) (rQ (a * d + (-c) * b) (b * d)), .int .i64 (rC (a * d + (-c) * b) (b * d))]) (by simp [results, Try.results93, go_sem, *]) rfl ⟨rfl, ?_⟩
    exact (G2.out.setCell (by simp; omega) _).setCell (by simp; omega) _
set_option maxHeartbeats 400000 in
theorem sSubFracs_inv (a b c d : Int) (w : World) (hk : (okB a b && okB c d) = false) :
    Calls Try.prog 35 #[fr a b, fr c d] w fun e w' => e = .returned (.tuple #[fr 0 0, .int .i64 1]) ∧ Gr w w' := by
  go_enter Try.func35, Try.ntmps35
  go_wp2_with fail
  refine (stwo _ _ _ _ _).mono ?_
  rintro e w1 ⟨rfl, hg1⟩
  rw [hk]
  obtain ⟨x0, x1, x2, _, G1⟩ := alloc3 hg1
  obtain ⟨_, _⟩ := cells2 x0
  obtain ⟨_, _⟩ := cells2 x1
  obtain ⟨_, _⟩ := cells2 x2
  have _ := fz x2
  have X2 := hid x2
  have G1 := hid G1
  clear hg1 x0 x1 x2
  simp only [reduceIte, Bool.false_eq_true]
  go_wp2
  refine bodyPost_ret (v := .tuple #[fr (0) (0), .int .i64 (1)]) (by simp [results, Try.results35, go_sem, *]) rfl ⟨rfl, ?_⟩
  exact (G1.out.setCell (by simp; omega) _).setCell (by simp; omega) _
set_option maxHeartbeats 400000 in
theorem sSubFracs_ok (a b c d : Int) (w : World) (hk : (okB a b && okB c d) = true) :
    Calls Try.prog 35 #[fr a b, fr c d] w fun e w' => e = .returned (.tuple #[fr (rP (a*d-c*b) (b*d)) (rQ (a*d-c*b) (b*d)), .int .i64 (rC (a*d-c*b) (b*d))]) ∧ Gr w w' := by
  obtain ⟨k1, k2⟩ : okB a b = true ∧ okB c d = true := by simpa using hk
  obtain ⟨b1, b2, b3, b4⟩ := okB_bd k1
  obtain ⟨d1, d2, d3, d4⟩ := okB_bd k2
  clear k1 k2
  go_enter Try.func35, Try.ntmps35
  go_wp2_with fail
  refine (stwo _ _ _ _ _).mono ?_
  rintro e w1 ⟨rfl, hg1⟩
  rw [hk]
  obtain ⟨x0, x1, x2, _, G1⟩ := alloc3 hg1
  obtain ⟨_, _⟩ := cells2 x0
  obtain ⟨_, _⟩ := cells2 x1
  obtain ⟨_, _⟩ := cells2 x2
  have _ := fz x2
  have X2 := hid x2
  have G1 := hid G1
  clear hg1 x0 x1 x2
  simp only [reduceIte]
  go_wp2_with fail
  refine (sl01Sub _ _ _ _ _ b1 b2 b3 b4 d1 d2 d3 d4).mono ?_
  rintro e w2 ⟨rfl, hg2⟩
  have x2 := hg2.keep X2.out
  obtain ⟨_, _⟩ := cells2 x2
  have _ := fz x2
  have G2 := hid (G1.out.trans hg2)
  clear hg2 x2
  go_wp2
  refine bodyPost_ret (v := .tuple #[fr ((rP (a*d-c*b) (b*d))) ((rQ (a*d-c*b) (b*d))), .int .i64 ((rC (a*d-c*b) (b*d)))]) (by simp [results, Try.results35, go_sem, *]) rfl ⟨rfl, ?_⟩
  exact (G2.out.setCell (by simp; omega) _).setCell (by simp; omega) _
theorem sSubFracs (a b c d : Int) (w : World) :
    Calls Try.prog 35 #[fr a b, fr c d] w fun e w' => e = .returned (.tuple #[fr (oP (okB a b) (okB c d) (a*d-c*b) (b*d)) (oQ (okB a b) (okB c d) (a*d-c*b) (b*d)), .int .i64 (oC (okB a b) (okB c d) (a*d-c*b) (b*d))]) ∧ Gr w w' := by
  unfold oP oQ oC
  cases hk : okB a b && okB c d with
  | false => simpa using sSubFracs_inv a b c d w hk
  | true => simpa using sSubFracs_ok a b c d w hk
set_option maxHeartbeats 400000 in
theorem sl01Mul (a b c d : Int) (w : World) (h1 : 1 ≤ b) (h2 : b ≤ 1000000000) (h3 : -1000000000 ≤ a) (h4 : a ≤ 1000000000) (g1 : 1 ≤ d) (g2 : d ≤ 1000000000) (g3 : -1000000000 ≤ c) (g4 : c ≤ 1000000000) :
    Calls Try.prog 94 #[fr a b, fr c d] w fun e w' => e = .returned (.tuple #[fr (rP (a*c) (b*d)) (rQ (a*c) (b*d)), .int .i64 (rC (a*c) (b*d))]) ∧ Gr w w' := by
  have q0 := mul_bd (x := a) (y := c) (by omega) (by omega) (by omega) (by omega); have q2 := mul_bd (x := b) (y := d) (by omega) (by omega) (by omega) (by omega); have qz : b * d ≠ 0 := Int.mul_ne_zero (by omega) (by omega)
  go_enter Try.func94, Try.ntmps94
  go_wp2_with fail
  refine (sred_any _ _ _ qz (by omega) (by omega) (by omega) (by omega)).mono ?_
  rintro e w1 ⟨rfl, hg1⟩
  obtain ⟨_, _, x2, _, G1⟩ := alloc3 hg1
  obtain ⟨_, _⟩ := cells2 x2
  have _ := fz x2
  have G1 := hid G1
  clear hg1 x2
  go_wp2
  refine bodyPost_ret (v := .tuple #[fr (rP (a*c) (b*d)) (rQ (a*c) (b*d)), .int .i64 (rC (a*c) (b*d))]) (by simp [results, Try.results94, go_sem, *]) rfl ⟨rfl, ?_⟩
  exact (G1.out.setCell (by simp; omega) _).setCell (by simp; omega) _
set_option maxHeartbeats 400000 in
theorem sMulFracs_inv (a b c d : Int) (w : World) (hk : (okB a b && okB c d) = false) :
    Calls Try.prog 37 #[fr a b, fr c d] w fun e w' => e = .returned (.tuple #[fr 0 0, .int .i64 1]) ∧ Gr w w' := by
  go_enter Try.func37, Try.ntmps37
  go_wp2_with fail
  refine (stwo _ _ _ _ _).mono ?_
  rintro e w1 ⟨rfl, hg1⟩
  rw [hk]
  obtain ⟨x0, x1, x2, _, G1⟩ := alloc3 hg1
  obtain ⟨_, _⟩ := cells2 x0
  obtain ⟨_, _⟩ := cells2 x1
  obtain ⟨_, _⟩ := cells2 x2
  have _ := fz x2
  have X2 := hid x2
  have G1 := hid G1
  clear hg1 x0 x1 x2
  simp only [reduceIte, Bool.false_eq_true]
  go_wp2
  refine bodyPost_ret (v := .tuple #[fr (0) (0), .int .i64 (1)]) (by simp [results, Try.results37, go_sem, *]) rfl ⟨rfl, ?_⟩
  exact (G1.out.setCell (by simp; omega) _).setCell (by simp; omega) _
set_option maxHeartbeats 400000 in
theorem sMulFracs_ok (a b c d : Int) (w : World) (hk : (okB a b && okB c d) = true) :
    Calls Try.prog 37 #[fr a b, fr c d] w fun e w' => e = .returned (.tuple #[fr (rP (a*c) (b*d)) (rQ (a*c) (b*d)), .int .i64 (rC (a*c) (b*d))]) ∧ Gr w w' := by
  obtain ⟨k1, k2⟩ : okB a b = true ∧ okB c d = true := by simpa using hk
  obtain ⟨b1, b2, b3, b4⟩ := okB_bd k1
  obtain ⟨d1, d2, d3, d4⟩ := okB_bd k2
  clear k1 k2
  go_enter Try.func37, Try.ntmps37
  go_wp2_with fail
  refine (stwo _ _ _ _ _).mono ?_
  rintro e w1 ⟨rfl, hg1⟩
  rw [hk]
  obtain ⟨x0, x1, x2, _, G1⟩ := alloc3 hg1
  obtain ⟨_, _⟩ := cells2 x0
  obtain ⟨_, _⟩ := cells2 x1
  obtain ⟨_, _⟩ := cells2 x2
  have _ := fz x2
  have X2 := hid x2
  have G1 := hid G1
  clear hg1 x0 x1 x2
  simp only [reduceIte]
  go_wp2_with fail
  refine (sl01Mul _ _ _ _ _ b1 b2 b3 b4 d1 d2 d3 d4).mono ?_
  rintro e w2 ⟨rfl, hg2⟩
  have x2 := hg2.keep X2.out
  obtain ⟨_, _⟩ := cells2 x2
  have _ := fz x2
  have G2 := hid (G1.out.trans hg2)
  clear hg2 x2
  go_wp2
  refine bodyPost_ret (v := .tuple #[fr ((rP (a*c) (b*d))) ((rQ (a*c) (b*d))), .int .i64 ((rC (a*c) (b*d)))]) (by simp [results, Try.results37, go_sem, *]) rfl ⟨rfl, ?_⟩
  exact (G2.out.setCell (by simp; omega) _).setCell (by simp; omega) _
theorem sMulFracs (a b c d : Int) (w : World) :
    Calls Try.prog 37 #[fr a b, fr c d] w fun e w' => e = .returned (.tuple #[fr (oP (okB a b) (okB c d) (a*c) (b*d)) (oQ (okB a b) (okB c d) (a*c) (b*d)), .int .i64 (oC (okB a b) (okB c d) (a*c) (b*d))]) ∧ Gr w w' := by
  unfold oP oQ oC
  cases hk : okB a b && okB c d with
  | false => simpa using sMulFracs_inv a b c d w hk
  | true => simpa using sMulFracs_ok a b c d w hk
set_option maxHeartbeats 400000 in
theorem sl01Div (a b c d : Int) (w : World) (h1 : 1 ≤ b) (h2 : b ≤ 1000000000) (h3 : -1000000000 ≤ a) (h4 : a ≤ 1000000000) (g1 : 1 ≤ d) (g2 : d ≤ 1000000000) (g3 : -1000000000 ≤ c) (g4 : c ≤ 1000000000) (hz : c ≠ 0) :
    Calls Try.prog 95 #[fr a b, fr c d] w fun e w' => e = .returned (.tuple #[fr (rP (a*d) (b*c)) (rQ (a*d) (b*c)), .int .i64 (rC (a*d) (b*c))]) ∧ Gr w w' := by
  have q0 := mul_bd (x := a) (y := d) (by omega) (by omega) (by omega) (by omega); have q2 := mul_bd (x := b) (y := c) (by omega) (by omega) (by omega) (by omega); have qz : b * c ≠ 0 := Int.mul_ne_zero (by omega) hz
  go_enter Try.func95, Try.ntmps95
  go_wp2_with fail
  refine (sred_any _ _ _ qz (by omega) (by omega) (by omega) (by omega)).mono ?_
  rintro e w1 ⟨rfl, hg1⟩
  obtain ⟨_, _, x2, _, G1⟩ := alloc3 hg1
  obtain ⟨_, _⟩ := cells2 x2
  have _ := fz x2
  have G1 := hid G1
  clear hg1 x2
  go_wp2
  refine bodyPost_ret (v := .tuple #[fr (rP (a*d) (b*c)) (rQ (a*d) (b*c)), .int .i64 (rC (a*d) (b*c))]) (by simp [results, Try.results95, go_sem, *]) rfl ⟨rfl, ?_⟩
  exact (G1.out.setCell (by simp; omega) _).setCell (by simp; omega) _
set_option maxHeartbeats 400000 in
theorem sDivFracs_inv (a b c d : Int) (w : World) (hk : (okB a b && okB c d) = false) :
    Calls Try.prog 39 #[fr a b, fr c d] w fun e w' => e = .returned (.tuple #[fr 0 0, .int .i64 1]) ∧ Gr w w' := by
  go_enter Try.func39, Try.ntmps39
  go_wp2_with fail
  refine (stwo _ _ _ _ _).mono ?_
  rintro e w1 ⟨rfl, hg1⟩
  rw [hk]
  obtain ⟨x0, x1, x2, _, G1⟩ := alloc3 hg1
  obtain ⟨_, _⟩ := cells2 x0
  obtain ⟨_, _⟩ := cells2 x1
  obtain ⟨_, _⟩ := cells2 x2
  have _ := fz x2
  have X2 := hid x2
  have G1 := hid G1
  clear hg1 x0 x1 x2
  simp only [reduceIte, Bool.false_eq_true]
  go_wp2
  refine bodyPost_ret (v := .tuple #[fr (0) (0), .int .i64 (1)]) (by simp [results, Try.results39, go_sem, *]) rfl ⟨rfl, ?_⟩
  exact (G1.out.setCell (by simp; omega) _).setCell (by simp; omega) _
set_option maxHeartbeats 400000 in
theorem sDivFracs_ok (a b c d : Int) (w : World) (hk : (okB a b && okB c d) = true) (hz : c ≠ 0) :
    Calls Try.prog 39 #[fr a b, fr c d] w fun e w' => e = .returned (.tuple #[fr (rP (a*d) (b*c)) (rQ (a*d) (b*c)), .int .i64 (rC (a*d) (b*c))]) ∧ Gr w w' := by
  obtain ⟨k1, k2⟩ : okB a b = true ∧ okB c d = true := by simpa using hk
  obtain ⟨b1, b2, b3, b4⟩ := okB_bd k1
  obtain ⟨d1, d2, d3, d4⟩ := okB_bd k2
  clear k1 k2
  go_enter Try.func39, Try.ntmps39
  go_wp2_with fail
  refine (stwo _ _ _ _ _).mono ?_
  rintro e w1 ⟨rfl, hg1⟩
  rw [hk]
  obtain ⟨x0, x1, x2, _, G1⟩ := alloc3 hg1
  obtain ⟨_, _⟩ := cells2 x0
  obtain ⟨_, _⟩ := cells2 x1
  obtain ⟨_, _⟩ := cells2 x2
  have _ := fz x2
  have X2 := hid x2
  have G1 := hid G1
  clear hg1 x0 x1 x2
  simp only [reduceIte]
  go_wp2_with fail
  refine (sl01Div _ _ _ _ _ b1 b2 b3 b4 d1 d2 d3 d4 hz).mono ?_
  rintro e w2 ⟨rfl, hg2⟩
  have x2 := hg2.keep X2.out
  obtain ⟨_, _⟩ := cells2 x2
  have _ := fz x2
  have G2 := hid (G1.out.trans hg2)
  clear hg2 x2
  go_wp2
  refine bodyPost_ret (v := .tuple #[fr ((rP (a*d) (b*c))) ((rQ (a*d) (b*c))), .int .i64 ((rC (a*d) (b*c)))]) (by simp [results, Try.results39, go_sem, *]) rfl ⟨rfl, ?_⟩
  exact (G2.out.setCell (by simp; omega) _).setCell (by simp; omega) _
set_option maxHeartbeats 400000 in
theorem sDivFracs_zero (a b d : Int) (w : World) (hk : (okB a b && okB 0 d) = true) :
    Calls Try.prog 39 #[fr a b, fr 0 d] w fun e w' => e = .returned (.tuple #[fr 0 0, .int .i64 4]) ∧ Gr w w' := by
  go_enter Try.func39, Try.ntmps39
  go_wp2_with fail
  refine (stwo _ _ _ _ _).mono ?_
  rintro e w1 ⟨rfl, hg1⟩
  rw [hk]
  obtain ⟨x0, x1, x2, _, G1⟩ := alloc3 hg1
  obtain ⟨_, _⟩ := cells2 x0
  obtain ⟨_, _⟩ := cells2 x1
  obtain ⟨_, _⟩ := cells2 x2
  have _ := fz x2
  have X2 := hid x2
  have G1 := hid G1
  clear hg1 x0 x1 x2
  simp only [reduceIte]
  go_wp2
  refine bodyPost_ret (v := .tuple #[fr (0) (0), .int .i64 (4)]) (by simp [results, Try.results39, go_sem, *]) rfl ⟨rfl, ?_⟩
  exact (G1.out.setCell (by simp; omega) _).setCell (by simp; omega) _
theorem sDivFracs (a b c d : Int) (w : World) :
    Calls Try.prog 39 #[fr a b, fr c d] w fun e w' => e = .returned (.tuple #[fr (zP (okB a b) (okB c d) c (a*d) (b*c)) (zQ (okB a b) (okB c d) c (a*d) (b*c)), .int .i64 (zC (okB a b) (okB c d) c (a*d) (b*c))]) ∧ Gr w w' := by
  unfold zP zQ zC oP oQ
  cases hk : okB a b && okB c d with
  | false => simpa using sDivFracs_inv a b c d w hk
  | true =>
    by_cases hz : c = 0
    · subst hz
      simpa using sDivFracs_zero a b d w hk
    · simpa [hz] using sDivFracs_ok a b c d w hk hz
end Go.Proofs.Ytnijgondbpnpfaa
