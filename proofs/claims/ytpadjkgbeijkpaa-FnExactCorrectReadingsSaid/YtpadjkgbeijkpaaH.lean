/- WALKS: the four operations that the package exports, and those of the reference. -/
import Derived.Test.YtpadjkgbeijkpaaE
import Derived.Test.YtpadjkgbeijkpaaB
namespace Go.Proofs.Ytpadjkgbeijkpaa
open Go.RowKit Go.Sort

set_option maxHeartbeats 400000 in
theorem sneg (a b : Int) (w : World) (h1 : -1000000000 ≤ a) (h2 : a ≤ 1000000000) :
    Calls Try.prog 130 #[fr a b] w fun e w' => e = .returned (fr (-a) b) ∧ Gr w w' := by
  go_enter Try.func130, Try.ntmps130
  go_wp2
  refine bodyPost_ret (v := fr (-a) b) (by simp [results, Try.results130, go_sem]) rfl ⟨rfl, ?_⟩
  exact (Gr.alloc _ _).trans (Gr.alloc _ _)
end Go.Proofs.Ytpadjkgbeijkpaa
namespace Go.Proofs.Ytpadjkgbeijkpaa
open Go.RowKit Go.Sort

set_option maxHeartbeats 400000 in
theorem sl01Add (a b c d : Int) (w : World) (h1 : 1 ≤ b) (h2 : b ≤ 1000000000) (h3 : -1000000000 ≤ a) (h4 : a ≤ 1000000000) (g1 : 1 ≤ d) (g2 : d ≤ 1000000000) (g3 : -1000000000 ≤ c) (g4 : c ≤ 1000000000) :
    Calls Try.prog 77 #[fr a b, fr c d] w fun e w' => e = .returned (.tuple #[fr (rP (a*d+c*b) (b*d)) (rQ (a*d+c*b) (b*d)), .int .i64 (rC (a*d+c*b) (b*d))]) ∧ Gr w w' := by
  have q0 := mul_bd (x := a) (y := d) (by omega) (by omega) (by omega) (by omega); have q1 := mul_bd (x := c) (y := b) (by omega) (by omega) (by omega) (by omega); have q2 := mul_bd (x := b) (y := d) (by omega) (by omega) (by omega) (by omega); have qz : b * d ≠ 0 := Int.mul_ne_zero (by omega) (by omega)
  go_enter Try.func77, Try.ntmps77
  go_wp2_with fail
  refine (sred_any _ _ _ qz (by omega) (by omega) (by omega) (by omega)).mono ?_
  rintro e w1 ⟨rfl, hg1⟩
  obtain ⟨_, _, x2, _, G1⟩ := alloc3 hg1
  obtain ⟨_, _⟩ := cells2 x2
  have _ := fz x2
  have G1 := hid G1
  clear hg1 x2
  go_wp2
  refine bodyPost_ret (v := .tuple #[fr (rP (a*d+c*b) (b*d)) (rQ (a*d+c*b) (b*d)), .int .i64 (rC (a*d+c*b) (b*d))]) (by simp [results, Try.results77, go_sem, *]) rfl ⟨rfl, ?_⟩
  exact (G1.out.setCell (by simp; omega) _).setCell (by simp; omega) _
set_option maxHeartbeats 400000 in
theorem sl01Sub (a b c d : Int) (w : World) (h1 : 1 ≤ b) (h2 : b ≤ 1000000000) (h3 : -1000000000 ≤ a) (h4 : a ≤ 1000000000) (g1 : 1 ≤ d) (g2 : d ≤ 1000000000) (g3 : -1000000000 ≤ c) (g4 : c ≤ 1000000000) :
    Calls Try.prog 78 #[fr a b, fr c d] w fun e w' => e = .returned (.tuple #[fr (rP (a*d-c*b) (b*d)) (rQ (a*d-c*b) (b*d)), .int .i64 (rC (a*d-c*b) (b*d))]) ∧ Gr w w' := by
  have e : a * d - c * b = a * d + (-c) * b := by rw [Int.neg_mul]; omega
  have E := hid e; clear e
  rw [E.out]
  go_enter Try.func78, Try.ntmps78
  go_wp2_with fail
  go_region_with (first | (go_at_call 130; refine (sneg _ _ _ g3 g4).mono ?_; rintro e w1 ⟨rfl, hg1⟩; obtain ⟨x0, _, x2, _, G1⟩ := alloc3 ((Gr.drew _).trans hg1); have X2 := hid x2; obtain ⟨_, _⟩ := cells2 x0; have G1 := hid G1; clear hg1 x0 x2) | (go_at_call 77; refine (sl01Add a b (-c) d _ h1 h2 h3 h4 g1 g2 (by omega) (by omega)).mono ?_; rintro e w2 ⟨rfl, hg2⟩; have x2 := hg2.keep X2.out; obtain ⟨_, _⟩ := cells2 x2; have _ := fz x2; have G2 := hid (G1.out.trans hg2); clear hg2 x2))
  all_goals
    go_wp2
    refine bodyPost_ret (v := .tuple #[fr (rP (a * d + (-c) * b) (b * d)) (rQ (a * d + (-c) * b) (b * d)), .int .i64 (rC (a * d + (-c) * b) (b * d))]) (by simp [results, Try.results78, go_sem, *]) rfl ⟨rfl, ?_⟩
    exact (G2.out.setCell (by simp; omega) _).setCell (by simp; omega) _
set_option maxHeartbeats 400000 in
theorem sl01Mul (a b c d : Int) (w : World) (h1 : 1 ≤ b) (h2 : b ≤ 1000000000) (h3 : -1000000000 ≤ a) (h4 : a ≤ 1000000000) (g1 : 1 ≤ d) (g2 : d ≤ 1000000000) (g3 : -1000000000 ≤ c) (g4 : c ≤ 1000000000) :
    Calls Try.prog 76 #[fr a b, fr c d] w fun e w' => e = .returned (.tuple #[fr (rP (a*c) (b*d)) (rQ (a*c) (b*d)), .int .i64 (rC (a*c) (b*d))]) ∧ Gr w w' := by
  have q0 := mul_bd (x := a) (y := c) (by omega) (by omega) (by omega) (by omega); have q2 := mul_bd (x := b) (y := d) (by omega) (by omega) (by omega) (by omega); have qz : b * d ≠ 0 := Int.mul_ne_zero (by omega) (by omega)
  go_enter Try.func76, Try.ntmps76
  go_wp2_with fail
  refine (sred_any _ _ _ qz (by omega) (by omega) (by omega) (by omega)).mono ?_
  rintro e w1 ⟨rfl, hg1⟩
  obtain ⟨_, _, x2, _, G1⟩ := alloc3 hg1
  obtain ⟨_, _⟩ := cells2 x2
  have _ := fz x2
  have G1 := hid G1
  clear hg1 x2
  go_wp2
  refine bodyPost_ret (v := .tuple #[fr (rP (a*c) (b*d)) (rQ (a*c) (b*d)), .int .i64 (rC (a*c) (b*d))]) (by simp [results, Try.results76, go_sem, *]) rfl ⟨rfl, ?_⟩
  exact (G1.out.setCell (by simp; omega) _).setCell (by simp; omega) _
end Go.Proofs.Ytpadjkgbeijkpaa
namespace Go.Proofs.Ytpadjkgbeijkpaa
open Go.RowKit Go.Sort

set_option maxHeartbeats 400000 in
theorem swhole1 (n : Int) (w : World) :
    Calls Try.prog 41 #[.int .i64 n] w fun e w' => e = .returned (fr n 1) ∧ Gr w w' := by
  go_enter Try.func41, Try.ntmps41
  go_wp2
  refine bodyPost_ret (v := fr n 1) (by simp [results, Try.results41, go_sem]) rfl ⟨rfl, ?_⟩
  exact Gr.alloc _ _
/-! ### MakeFrac -/
end Go.Proofs.Ytpadjkgbeijkpaa
