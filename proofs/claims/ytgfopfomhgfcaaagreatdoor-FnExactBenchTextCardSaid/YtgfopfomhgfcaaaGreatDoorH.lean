/- WALKS: the four operations that the package exports, and those of the reference. -/
import Derived.Test.YtgfopfomhgfcaaaGreatDoorE
import Derived.Test.YtgfopfomhgfcaaaGreatDoorB
namespace Go.Proofs.YtgfopfomhgfcaaaGreatDoor
open Go.RowKit Go.Sort

end Go.Proofs.YtgfopfomhgfcaaaGreatDoor
namespace Go.Proofs.YtgfopfomhgfcaaaGreatDoor
open Go.RowKit Go.Sort

set_option maxHeartbeats 400000 in
theorem sl01Add (a b c d : Int) (w : World) (h1 : 1 ≤ b) (h2 : b ≤ 1000000000) (h3 : -1000000000 ≤ a) (h4 : a ≤ 1000000000) (g1 : 1 ≤ d) (g2 : d ≤ 1000000000) (g3 : -1000000000 ≤ c) (g4 : c ≤ 1000000000) :
    Calls Tryz.prog 127 #[fr a b, fr c d] w fun e w' => e = .returned (.tuple #[fr (rP (a*d+c*b) (b*d)) (rQ (a*d+c*b) (b*d)), .int .i64 (rC (a*d+c*b) (b*d))]) ∧ Gr w w' := by
  have q0 := mul_bd (x := a) (y := d) (by omega) (by omega) (by omega) (by omega); have q1 := mul_bd (x := c) (y := b) (by omega) (by omega) (by omega) (by omega); have q2 := mul_bd (x := b) (y := d) (by omega) (by omega) (by omega) (by omega); have qz : b * d ≠ 0 := Int.mul_ne_zero (by omega) (by omega)
  go_enter Tryz.func127, Tryz.ntmps127
  go_wp2_with fail
  refine (sred_any _ _ _ qz (by omega) (by omega) (by omega) (by omega)).mono ?_
  rintro e w1 ⟨rfl, hg1⟩
  obtain ⟨_, _, x2, _, G1⟩ := alloc3 hg1
  obtain ⟨_, _⟩ := cells2 x2
  have _ := fz x2
  have G1 := hid G1
  clear hg1 x2
  go_wp2
  refine bodyPost_ret (v := .tuple #[fr (rP (a*d+c*b) (b*d)) (rQ (a*d+c*b) (b*d)), .int .i64 (rC (a*d+c*b) (b*d))]) (by simp [results, Tryz.results127, go_sem, *]) rfl ⟨rfl, ?_⟩
  exact (G1.out.setCell (by simp; omega) _).setCell (by simp; omega) _
set_option maxHeartbeats 400000 in
theorem sl01Mul (a b c d : Int) (w : World) (h1 : 1 ≤ b) (h2 : b ≤ 1000000000) (h3 : -1000000000 ≤ a) (h4 : a ≤ 1000000000) (g1 : 1 ≤ d) (g2 : d ≤ 1000000000) (g3 : -1000000000 ≤ c) (g4 : c ≤ 1000000000) :
    Calls Tryz.prog 126 #[fr a b, fr c d] w fun e w' => e = .returned (.tuple #[fr (rP (a*c) (b*d)) (rQ (a*c) (b*d)), .int .i64 (rC (a*c) (b*d))]) ∧ Gr w w' := by
  have q0 := mul_bd (x := a) (y := c) (by omega) (by omega) (by omega) (by omega); have q2 := mul_bd (x := b) (y := d) (by omega) (by omega) (by omega) (by omega); have qz : b * d ≠ 0 := Int.mul_ne_zero (by omega) (by omega)
  go_enter Tryz.func126, Tryz.ntmps126
  go_wp2_with fail
  refine (sred_any _ _ _ qz (by omega) (by omega) (by omega) (by omega)).mono ?_
  rintro e w1 ⟨rfl, hg1⟩
  obtain ⟨_, _, x2, _, G1⟩ := alloc3 hg1
  obtain ⟨_, _⟩ := cells2 x2
  have _ := fz x2
  have G1 := hid G1
  clear hg1 x2
  go_wp2
  refine bodyPost_ret (v := .tuple #[fr (rP (a*c) (b*d)) (rQ (a*c) (b*d)), .int .i64 (rC (a*c) (b*d))]) (by simp [results, Tryz.results126, go_sem, *]) rfl ⟨rfl, ?_⟩
  exact (G1.out.setCell (by simp; omega) _).setCell (by simp; omega) _
end Go.Proofs.YtgfopfomhgfcaaaGreatDoor
namespace Go.Proofs.YtgfopfomhgfcaaaGreatDoor
open Go.RowKit Go.Sort

set_option maxHeartbeats 400000 in
theorem swhole1 (n : Int) (w : World) :
    Calls Tryz.prog 53 #[.int .i64 n] w fun e w' => e = .returned (fr n 1) ∧ Gr w w' := by
  go_enter Tryz.func53, Tryz.ntmps53
  go_wp2
  refine bodyPost_ret (v := fr n 1) (by simp [results, Tryz.results53, go_sem]) rfl ⟨rfl, ?_⟩
  exact Gr.alloc _ _
/-! ### MakeFrac -/
end Go.Proofs.YtgfopfomhgfcaaaGreatDoor
