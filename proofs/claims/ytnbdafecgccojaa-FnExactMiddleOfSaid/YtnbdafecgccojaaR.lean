/- WALKS: spans of sums and differences: the reference's. -/
import Derived.Test.YtnbdafecgccojaaN
import Derived.Test.YtnbdafecgccojaaI
namespace Go.Proofs.Ytnbdafecgccojaa
open Go.RowKit Go.Sort

set_option maxRecDepth 20000 in
set_option maxHeartbeats 400000 in
theorem sboth_ok (p q p' q' : Int) (w : World) :
    Calls Try.prog 146 #[fr p q, .int .i64 0, fr p' q', .int .i64 0] w fun e w' => e = .returned (.tuple #[sp p q p' q', .int .i64 0]) ∧ Gr w w' := by
  go_enter Try.func146, Try.ntmps146
  go_wp2
  refine bodyPost_ret (v := .tuple #[sp p q p' q', .int .i64 0]) (by simp [results, Try.results146, go_sem, *]) rfl ⟨rfl, ?_⟩
  exact ((((Gr.refl _)).al _).al _).al _
set_option maxRecDepth 20000 in
set_option maxHeartbeats 400000 in
theorem sboth_n1 (p q p' q' c : Int) (w : World) :
    Calls Try.prog 146 #[fr p q, .int .i64 3, fr p' q', .int .i64 c] w fun e w' => e = .returned (.tuple #[sp 0 0 0 0, .int .i64 3]) ∧ Gr w w' := by
  go_enter Try.func146, Try.ntmps146
  go_wp2
  refine bodyPost_ret (v := .tuple #[sp 0 0 0 0, .int .i64 3]) (by simp [results, Try.results146, go_sem, *]) rfl ⟨rfl, ?_⟩
  exact ((((Gr.refl _)).al _).al _).al _
set_option maxRecDepth 20000 in
set_option maxHeartbeats 400000 in
theorem sboth_n2 (p q p' q' : Int) (w : World) :
    Calls Try.prog 146 #[fr p q, .int .i64 0, fr p' q', .int .i64 3] w fun e w' => e = .returned (.tuple #[sp 0 0 0 0, .int .i64 3]) ∧ Gr w w' := by
  go_enter Try.func146, Try.ntmps146
  go_wp2
  refine bodyPost_ret (v := .tuple #[sp 0 0 0 0, .int .i64 3]) (by simp [results, Try.results146, go_sem, *]) rfl ⟨rfl, ?_⟩
  exact ((((Gr.refl _)).al _).al _).al _

/-- What two sums tell together. -/
def bV (n1 d1 n2 d2 : Int) : Value := if okB (redP n1 d1) (redQ n1 d1) && okB (redP n2 d2) (redQ n2 d2) then .tuple #[sp (redP n1 d1) (redQ n1 d1) (redP n2 d2) (redQ n2 d2), .int .i64 0] else .tuple #[sp 0 0 0 0, .int .i64 3]
theorem sboth_any (n1 d1 n2 d2 : Int) (w : World) :
    Calls Try.prog 146 #[fr (rP n1 d1) (rQ n1 d1), .int .i64 (rC n1 d1), fr (rP n2 d2) (rQ n2 d2), .int .i64 (rC n2 d2)] w fun e w' => e = .returned (bV n1 d1 n2 d2) ∧ Gr w w' := by
  unfold bV rP rQ rC
  cases h1 : okB (redP n1 d1) (redQ n1 d1) with
  | false => exact sboth_n1 _ _ _ _ _ w
  | true =>
    cases h2 : okB (redP n2 d2) (redQ n2 d2) with
    | false => exact sboth_n2 _ _ _ _ w
    | true => exact sboth_ok _ _ _ _ w
theorem bV_form (n1 d1 n2 d2 : Int) : ∃ p q p' q' c : Int, bV n1 d1 n2 d2 = .tuple #[sp p q p' q', .int .i64 c] := by
  unfold bV; split <;> exact ⟨_, _, _, _, _, rfl⟩
set_option maxRecDepth 20000 in
set_option maxHeartbeats 400000 in
theorem saround (a b c d : Int) (w : World) (h1 : okB a b = true) (h2 : okB c d = true) :
    Calls Try.prog 71 #[fr a b, fr c d] w fun e w' => e = .returned (bV (a*d-c*b) (b*d) (a*d+c*b) (b*d)) ∧ Gr w w' := by
  obtain ⟨b1, b2, b3, b4⟩ := okB_bd h1
  obtain ⟨d1, d2, d3, d4⟩ := okB_bd h2
  clear h1 h2
  obtain ⟨p, q, p', q', c', hf⟩ := bV_form (a*d-c*b) (b*d) (a*d+c*b) (b*d)
  rw [hf]
  have F := hid hf; clear hf
  go_enter Try.func71, Try.ntmps71
  go_wp2_with fail
  refine (sl01Sub _ _ _ _ _ b1 b2 b3 b4 d1 d2 d3 d4).mono ?_
  rintro e w1 ⟨rfl, hg1⟩
  obtain ⟨x1_0, x1_1, x1_2, hz1, g1⟩ := alloc3 hg1
  obtain ⟨_, _⟩ := cells2 x1_0
  have _ := fz x1_0
  have _ := ltb x1_0
  obtain ⟨_, _⟩ := cells2 x1_1
  have _ := fz x1_1
  have _ := ltb x1_1
  obtain ⟨_, _, _, _⟩ := cells4 x1_2
  have _ := fz x1_2
  have _ := ltb x1_2
  have X1_0 := hid x1_0; clear x1_0
  have X1_1 := hid x1_1; clear x1_1
  have X1_2 := hid x1_2; clear x1_2
  have G1 := hid (g1)
  clear hg1 g1
  go_wp2_with fail
  refine (sl01Add _ _ _ _ _ b1 b2 b3 b4 d1 d2 d3 d4).mono ?_
  rintro e w2 ⟨rfl, hg2⟩
  obtain ⟨x2_0, hz2, g2⟩ := alloc1 hg2
  have x2_1 := g2.keep X1_0.out
  have x2_2 := g2.keep X1_1.out
  have x2_3 := g2.keep X1_2.out
  obtain ⟨_, _⟩ := cells2 x2_1
  have _ := fz x2_1
  have _ := ltb x2_1
  obtain ⟨_, _⟩ := cells2 x2_2
  have _ := fz x2_2
  have _ := ltb x2_2
  obtain ⟨_, _, _, _⟩ := cells4 x2_3
  have _ := fz x2_3
  have _ := ltb x2_3
  obtain ⟨_, _⟩ := cells2 x2_0
  have _ := fz x2_0
  have _ := ltb x2_0
  have X2_1 := hid x2_1; clear x2_1
  have X2_2 := hid x2_2; clear x2_2
  have X2_3 := hid x2_3; clear x2_3
  have X2_0 := hid x2_0; clear x2_0
  have G2 := hid (G1.out.trans g2)
  clear hg2 g2
  go_wp2_with fail
  refine (sboth_any _ _ _ _ _).mono ?_
  rintro e w3 ⟨rfl, hg3⟩
  obtain ⟨x3_0, hz3, g3⟩ := alloc1 hg3
  have x3_1 := g3.keep X2_1.out
  have x3_2 := g3.keep X2_2.out
  have x3_3 := g3.keep X2_3.out
  have x3_4 := g3.keep X2_0.out
  obtain ⟨_, _⟩ := cells2 x3_1
  have _ := fz x3_1
  have _ := ltb x3_1
  obtain ⟨_, _⟩ := cells2 x3_2
  have _ := fz x3_2
  have _ := ltb x3_2
  obtain ⟨_, _, _, _⟩ := cells4 x3_3
  have _ := fz x3_3
  have _ := ltb x3_3
  obtain ⟨_, _⟩ := cells2 x3_4
  have _ := fz x3_4
  have _ := ltb x3_4
  obtain ⟨_, _⟩ := cells2 x3_0
  have _ := fz x3_0
  have _ := ltb x3_0
  have X3_1 := hid x3_1; clear x3_1
  have X3_2 := hid x3_2; clear x3_2
  have X3_3 := hid x3_3; clear x3_3
  have X3_4 := hid x3_4; clear x3_4
  have X3_0 := hid x3_0; clear x3_0
  have G3 := hid (G2.out.trans g3)
  clear hg3 g3
  rw [F.out]
  go_wp2
  refine bodyPost_ret (v := .tuple #[sp p q p' q', .int .i64 c']) (by simp [results, Try.results71, go_sem, *]) rfl ⟨rfl, ?_⟩
  exact ((((G3.out).setCell (by simp <;> omega) _).setCell (by simp <;> omega) _).setCell (by simp <;> omega) _).setCell (by simp <;> omega) _
/-- spec.l01Two, both ways -/
theorem stwo_no (a b c d : Int) (w : World) (h : (okB a b && okB c d) = false) :
    Calls Try.prog 90 #[fr a b, fr c d] w fun e w' => e = .returned (.int .i64 1) ∧ Gr w w' :=
  (stwo a b c d w).mono fun e w' ⟨he, hg⟩ => ⟨by rw [he, h]; rfl, hg⟩
theorem stwo_yes (a b c d : Int) (w : World) (h : (okB a b && okB c d) = true) :
    Calls Try.prog 90 #[fr a b, fr c d] w fun e w' => e = .returned (.int .i64 0) ∧ Gr w w' :=
  (stwo a b c d w).mono fun e w' ⟨he, hg⟩ => ⟨by rw [he, h]; rfl, hg⟩
end Go.Proofs.Ytnbdafecgccojaa
