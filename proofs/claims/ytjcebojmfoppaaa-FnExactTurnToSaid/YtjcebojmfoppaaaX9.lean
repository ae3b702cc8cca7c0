/- WALKS: TurnTo, of the program and of the reference: what is exported. -/
import Derived.Test.YtjcebojmfoppaaaX8
namespace Go.Proofs.Ytjcebojmfoppaaa
open Go.RowKit Go.Sort

def toV (y : Int) (r : Moves) : Value := .tuple #[spi r.t r.p r.q, .int .i64 (y * r.n), .int .i64 r.c]
theorem cmp_one {a b c d : Int} (h : cmpI a b c d ≠ 0) : cmpI a b c d = 1 ∨ cmpI a b c d = -1 := by
  unfold cmpI at *
  split at h
  · rename_i h1; right; rw [if_pos h1]
  · rename_i h1
    split at h
    · rename_i h2; left; rw [if_neg h1, if_pos h2]
    · exact absurd rfl h
theorem side_bd {y N : Int} (hy : y = 1 ∨ y = -1) (h1 : 0 ≤ N) (h2 : N ≤ 10000) : (-10000 ≤ y * N ∧ y * N ≤ 10000) ∧ (-10000 ≤ N * y ∧ N * y ≤ 10000) := by
  rcases hy with rfl | rfl <;> omega
set_option maxRecDepth 20000 in
set_option maxHeartbeats 400000 in
theorem sTo_n1 (a b n c d t p q e f m : Int) (w : World) (h : sdB a b n c d t p q = false) :
    Calls Try.prog 25 #[sc a b n c d, spi t p q, fr e f, .int .i64 m] w fun e w' => e = .returned (.tuple #[spi 0 0 0, .int .i64 0, .int .i64 1]) ∧ Gr w w' := by
  have h := hid h
  go_enter Try.func25, Try.ntmps25
  go_wp2_with fail
  refine (sspin_F _ _ _ _ _ _ _ _ _ _ _ (hid (alloc4 (Gr.refl _)).1) (hid (alloc4 (Gr.refl _)).2.1) h.out).mono ?_
  rintro e w1 ⟨rfl, hg1⟩
  obtain ⟨x1_0, x1_1, x1_2, x1_3, hz1, g1⟩ := alloc4 hg1
  obtain ⟨_, _, _, _, _⟩ := cells5 x1_0
  have _ := fz x1_0
  have _ := ltb x1_0
  obtain ⟨_, _, _⟩ := cells3 x1_1
  have _ := fz x1_1
  have _ := ltb x1_1
  obtain ⟨_, _⟩ := cells2 x1_2
  have _ := fz x1_2
  have _ := ltb x1_2
  obtain ⟨_, _, _⟩ := cells3 x1_3
  have _ := fz x1_3
  have _ := ltb x1_3
  have X1_0 := hid x1_0; clear x1_0
  have X1_1 := hid x1_1; clear x1_1
  have X1_2 := hid x1_2; clear x1_2
  have X1_3 := hid x1_3; clear x1_3
  have G1 := hid (g1)
  clear hg1 g1
  go_wp2
  refine bodyPost_ret (v := .tuple #[spi 0 0 0, .int .i64 0, .int .i64 1]) (by simp [results, Try.results25, go_sem, *]) rfl ⟨rfl, ?_⟩
  exact (((G1.out).setCell (by simp <;> omega) _).setCell (by simp <;> omega) _).setCell (by simp <;> omega) _
set_option maxRecDepth 20000 in
set_option maxHeartbeats 400000 in
theorem sTo_n2 (a b n c d t p q e f m : Int) (w : World) (h : sdB a b n c d t p q = true) (ho : okB e f = false) :
    Calls Try.prog 25 #[sc a b n c d, spi t p q, fr e f, .int .i64 m] w fun e w' => e = .returned (.tuple #[spi 0 0 0, .int .i64 0, .int .i64 1]) ∧ Gr w w' := by
  have h := hid h; have ho := hid ho
  go_enter Try.func25, Try.ntmps25
  go_wp2_with fail
  refine (sspin_T _ _ _ _ _ _ _ _ _ _ _ (hid (alloc4 (Gr.refl _)).1) (hid (alloc4 (Gr.refl _)).2.1) h.out).mono ?_
  rintro e w1 ⟨rfl, hg1⟩
  obtain ⟨x1_0, x1_1, x1_2, x1_3, hz1, g1⟩ := alloc4 hg1
  obtain ⟨_, _, _, _, _⟩ := cells5 x1_0
  have _ := fz x1_0
  have _ := ltb x1_0
  obtain ⟨_, _, _⟩ := cells3 x1_1
  have _ := fz x1_1
  have _ := ltb x1_1
  obtain ⟨_, _⟩ := cells2 x1_2
  have _ := fz x1_2
  have _ := ltb x1_2
  obtain ⟨_, _, _⟩ := cells3 x1_3
  have _ := fz x1_3
  have _ := ltb x1_3
  have X1_0 := hid x1_0; clear x1_0
  have X1_1 := hid x1_1; clear x1_1
  have X1_2 := hid x1_2; clear x1_2
  have X1_3 := hid x1_3; clear x1_3
  have G1 := hid (g1)
  clear hg1 g1
  go_wp2_with fail
  refine (sok_f _ _ _ ho.out).mono ?_
  rintro e w2 ⟨rfl, hg2⟩
  have x2_1 := hg2.keep X1_0.out
  have x2_2 := hg2.keep X1_1.out
  have x2_3 := hg2.keep X1_2.out
  have x2_4 := hg2.keep X1_3.out
  obtain ⟨_, _, _, _, _⟩ := cells5 x2_1
  have _ := fz x2_1
  have _ := ltb x2_1
  obtain ⟨_, _, _⟩ := cells3 x2_2
  have _ := fz x2_2
  have _ := ltb x2_2
  obtain ⟨_, _⟩ := cells2 x2_3
  have _ := fz x2_3
  have _ := ltb x2_3
  obtain ⟨_, _, _⟩ := cells3 x2_4
  have _ := fz x2_4
  have _ := ltb x2_4
  have X2_1 := hid x2_1; clear x2_1
  have X2_2 := hid x2_2; clear x2_2
  have X2_3 := hid x2_3; clear x2_3
  have X2_4 := hid x2_4; clear x2_4
  have G2 := hid (G1.out.trans hg2)
  clear hg2
  go_wp2
  refine bodyPost_ret (v := .tuple #[spi 0 0 0, .int .i64 0, .int .i64 1]) (by simp [results, Try.results25, go_sem, *]) rfl ⟨rfl, ?_⟩
  exact (((G2.out).setCell (by simp <;> omega) _).setCell (by simp <;> omega) _).setCell (by simp <;> omega) _
set_option maxRecDepth 20000 in
set_option maxHeartbeats 400000 in
theorem sTo_n3 (a b n c d t p q e f m : Int) (w : World) (h : sdB a b n c d t p q = true) (ho : okB e f = true) (hm : inB m 0 10000 = false) :
    Calls Try.prog 25 #[sc a b n c d, spi t p q, fr e f, .int .i64 m] w fun e w' => e = .returned (.tuple #[spi 0 0 0, .int .i64 0, .int .i64 2]) ∧ Gr w w' := by
  have h := hid h; have ho := hid ho; have hm := hid hm
  go_enter Try.func25, Try.ntmps25
  go_wp2_with fail
  refine (sspin_T _ _ _ _ _ _ _ _ _ _ _ (hid (alloc4 (Gr.refl _)).1) (hid (alloc4 (Gr.refl _)).2.1) h.out).mono ?_
  rintro e w1 ⟨rfl, hg1⟩
  obtain ⟨x1_0, x1_1, x1_2, x1_3, hz1, g1⟩ := alloc4 hg1
  obtain ⟨_, _, _, _, _⟩ := cells5 x1_0
  have _ := fz x1_0
  have _ := ltb x1_0
  obtain ⟨_, _, _⟩ := cells3 x1_1
  have _ := fz x1_1
  have _ := ltb x1_1
  obtain ⟨_, _⟩ := cells2 x1_2
  have _ := fz x1_2
  have _ := ltb x1_2
  obtain ⟨_, _, _⟩ := cells3 x1_3
  have _ := fz x1_3
  have _ := ltb x1_3
  have X1_0 := hid x1_0; clear x1_0
  have X1_1 := hid x1_1; clear x1_1
  have X1_2 := hid x1_2; clear x1_2
  have X1_3 := hid x1_3; clear x1_3
  have G1 := hid (g1)
  clear hg1 g1
  go_wp2_with fail
  refine (sok_t _ _ _ ho.out).mono ?_
  rintro e w2 ⟨rfl, hg2⟩
  have x2_1 := hg2.keep X1_0.out
  have x2_2 := hg2.keep X1_1.out
  have x2_3 := hg2.keep X1_2.out
  have x2_4 := hg2.keep X1_3.out
  obtain ⟨_, _, _, _, _⟩ := cells5 x2_1
  have _ := fz x2_1
  have _ := ltb x2_1
  obtain ⟨_, _, _⟩ := cells3 x2_2
  have _ := fz x2_2
  have _ := ltb x2_2
  obtain ⟨_, _⟩ := cells2 x2_3
  have _ := fz x2_3
  have _ := ltb x2_3
  obtain ⟨_, _, _⟩ := cells3 x2_4
  have _ := fz x2_4
  have _ := ltb x2_4
  have X2_1 := hid x2_1; clear x2_1
  have X2_2 := hid x2_2; clear x2_2
  have X2_3 := hid x2_3; clear x2_3
  have X2_4 := hid x2_4; clear x2_4
  have G2 := hid (G1.out.trans hg2)
  clear hg2
  go_wp2_with fail
  refine (in_f _ _ _ _ hm.out).mono ?_
  rintro e w3 ⟨rfl, hg3⟩
  have x3_1 := hg3.keep X2_1.out
  have x3_2 := hg3.keep X2_2.out
  have x3_3 := hg3.keep X2_3.out
  have x3_4 := hg3.keep X2_4.out
  obtain ⟨_, _, _, _, _⟩ := cells5 x3_1
  have _ := fz x3_1
  have _ := ltb x3_1
  obtain ⟨_, _, _⟩ := cells3 x3_2
  have _ := fz x3_2
  have _ := ltb x3_2
  obtain ⟨_, _⟩ := cells2 x3_3
  have _ := fz x3_3
  have _ := ltb x3_3
  obtain ⟨_, _, _⟩ := cells3 x3_4
  have _ := fz x3_4
  have _ := ltb x3_4
  have X3_1 := hid x3_1; clear x3_1
  have X3_2 := hid x3_2; clear x3_2
  have X3_3 := hid x3_3; clear x3_3
  have X3_4 := hid x3_4; clear x3_4
  have G3 := hid (G2.out.trans hg3)
  clear hg3
  go_wp2
  refine bodyPost_ret (v := .tuple #[spi 0 0 0, .int .i64 0, .int .i64 2]) (by simp [results, Try.results25, go_sem, *]) rfl ⟨rfl, ?_⟩
  exact (((G3.out).setCell (by simp <;> omega) _).setCell (by simp <;> omega) _).setCell (by simp <;> omega) _
set_option maxRecDepth 20000 in
set_option maxHeartbeats 400000 in
theorem iTo_n1 (a b n c d t p q e f m : Int) (w : World) (h : sdB a b n c d t p q = false) :
    Calls Try.prog 27 #[sc a b n c d, spi t p q, fr e f, .int .i64 m] w fun e w' => e = .returned (.tuple #[spi 0 0 0, .int .i64 0, .int .i64 1]) ∧ Gr w w' := by
  have h := hid h
  go_enter Try.func27, Try.ntmps27
  go_wp2_with fail
  refine (ispin_F _ _ _ _ _ _ _ _ _ h.out).mono ?_
  rintro e w1 ⟨rfl, hg1⟩
  obtain ⟨x1_0, x1_1, x1_2, x1_3, hz1, g1⟩ := alloc4 hg1
  obtain ⟨_, _, _, _, _⟩ := cells5 x1_0
  have _ := fz x1_0
  have _ := ltb x1_0
  obtain ⟨_, _, _⟩ := cells3 x1_1
  have _ := fz x1_1
  have _ := ltb x1_1
  obtain ⟨_, _⟩ := cells2 x1_2
  have _ := fz x1_2
  have _ := ltb x1_2
  obtain ⟨_, _, _⟩ := cells3 x1_3
  have _ := fz x1_3
  have _ := ltb x1_3
  have X1_0 := hid x1_0; clear x1_0
  have X1_1 := hid x1_1; clear x1_1
  have X1_2 := hid x1_2; clear x1_2
  have X1_3 := hid x1_3; clear x1_3
  have G1 := hid (g1)
  clear hg1 g1
  go_wp2
  refine bodyPost_ret (v := .tuple #[spi 0 0 0, .int .i64 0, .int .i64 1]) (by simp [results, Try.results27, go_sem, *]) rfl ⟨rfl, ?_⟩
  exact (((G1.out).setCell (by simp <;> omega) _).setCell (by simp <;> omega) _).setCell (by simp <;> omega) _
set_option maxRecDepth 20000 in
set_option maxHeartbeats 400000 in
theorem iTo_n2 (a b n c d t p q e f m : Int) (w : World) (h : sdB a b n c d t p q = true) (ho : okB e f = false) :
    Calls Try.prog 27 #[sc a b n c d, spi t p q, fr e f, .int .i64 m] w fun e w' => e = .returned (.tuple #[spi 0 0 0, .int .i64 0, .int .i64 1]) ∧ Gr w w' := by
  have h := hid h; have ho := hid ho
  go_enter Try.func27, Try.ntmps27
  go_wp2_with fail
  refine (ispin_T _ _ _ _ _ _ _ _ _ h.out).mono ?_
  rintro e w1 ⟨rfl, hg1⟩
  obtain ⟨x1_0, x1_1, x1_2, x1_3, hz1, g1⟩ := alloc4 hg1
  obtain ⟨_, _, _, _, _⟩ := cells5 x1_0
  have _ := fz x1_0
  have _ := ltb x1_0
  obtain ⟨_, _, _⟩ := cells3 x1_1
  have _ := fz x1_1
  have _ := ltb x1_1
  obtain ⟨_, _⟩ := cells2 x1_2
  have _ := fz x1_2
  have _ := ltb x1_2
  obtain ⟨_, _, _⟩ := cells3 x1_3
  have _ := fz x1_3
  have _ := ltb x1_3
  have X1_0 := hid x1_0; clear x1_0
  have X1_1 := hid x1_1; clear x1_1
  have X1_2 := hid x1_2; clear x1_2
  have X1_3 := hid x1_3; clear x1_3
  have G1 := hid (g1)
  clear hg1 g1
  go_wp2_with fail
  refine (iok_f _ _ _ ho.out).mono ?_
  rintro e w2 ⟨rfl, hg2⟩
  have x2_1 := hg2.keep X1_0.out
  have x2_2 := hg2.keep X1_1.out
  have x2_3 := hg2.keep X1_2.out
  have x2_4 := hg2.keep X1_3.out
  obtain ⟨_, _, _, _, _⟩ := cells5 x2_1
  have _ := fz x2_1
  have _ := ltb x2_1
  obtain ⟨_, _, _⟩ := cells3 x2_2
  have _ := fz x2_2
  have _ := ltb x2_2
  obtain ⟨_, _⟩ := cells2 x2_3
  have _ := fz x2_3
  have _ := ltb x2_3
  obtain ⟨_, _, _⟩ := cells3 x2_4
  have _ := fz x2_4
  have _ := ltb x2_4
  have X2_1 := hid x2_1; clear x2_1
  have X2_2 := hid x2_2; clear x2_2
  have X2_3 := hid x2_3; clear x2_3
  have X2_4 := hid x2_4; clear x2_4
  have G2 := hid (G1.out.trans hg2)
  clear hg2
  go_wp2
  refine bodyPost_ret (v := .tuple #[spi 0 0 0, .int .i64 0, .int .i64 1]) (by simp [results, Try.results27, go_sem, *]) rfl ⟨rfl, ?_⟩
  exact (((G2.out).setCell (by simp <;> omega) _).setCell (by simp <;> omega) _).setCell (by simp <;> omega) _
set_option maxRecDepth 20000 in
set_option maxHeartbeats 400000 in
theorem iTo_n3 (a b n c d t p q e f m : Int) (w : World) (h : sdB a b n c d t p q = true) (ho : okB e f = true) (hm : inB m 0 10000 = false) :
    Calls Try.prog 27 #[sc a b n c d, spi t p q, fr e f, .int .i64 m] w fun e w' => e = .returned (.tuple #[spi 0 0 0, .int .i64 0, .int .i64 2]) ∧ Gr w w' := by
  have h := hid h; have ho := hid ho; have hm := hid hm
  go_enter Try.func27, Try.ntmps27
  go_wp2_with fail
  refine (ispin_T _ _ _ _ _ _ _ _ _ h.out).mono ?_
  rintro e w1 ⟨rfl, hg1⟩
  obtain ⟨x1_0, x1_1, x1_2, x1_3, hz1, g1⟩ := alloc4 hg1
  obtain ⟨_, _, _, _, _⟩ := cells5 x1_0
  have _ := fz x1_0
  have _ := ltb x1_0
  obtain ⟨_, _, _⟩ := cells3 x1_1
  have _ := fz x1_1
  have _ := ltb x1_1
  obtain ⟨_, _⟩ := cells2 x1_2
  have _ := fz x1_2
  have _ := ltb x1_2
  obtain ⟨_, _, _⟩ := cells3 x1_3
  have _ := fz x1_3
  have _ := ltb x1_3
  have X1_0 := hid x1_0; clear x1_0
  have X1_1 := hid x1_1; clear x1_1
  have X1_2 := hid x1_2; clear x1_2
  have X1_3 := hid x1_3; clear x1_3
  have G1 := hid (g1)
  clear hg1 g1
  go_wp2_with fail
  refine (iok_t _ _ _ ho.out).mono ?_
  rintro e w2 ⟨rfl, hg2⟩
  have x2_1 := hg2.keep X1_0.out
  have x2_2 := hg2.keep X1_1.out
  have x2_3 := hg2.keep X1_2.out
  have x2_4 := hg2.keep X1_3.out
  obtain ⟨_, _, _, _, _⟩ := cells5 x2_1
  have _ := fz x2_1
  have _ := ltb x2_1
  obtain ⟨_, _, _⟩ := cells3 x2_2
  have _ := fz x2_2
  have _ := ltb x2_2
  obtain ⟨_, _⟩ := cells2 x2_3
  have _ := fz x2_3
  have _ := ltb x2_3
  obtain ⟨_, _, _⟩ := cells3 x2_4
  have _ := fz x2_4
  have _ := ltb x2_4
  have X2_1 := hid x2_1; clear x2_1
  have X2_2 := hid x2_2; clear x2_2
  have X2_3 := hid x2_3; clear x2_3
  have X2_4 := hid x2_4; clear x2_4
  have G2 := hid (G1.out.trans hg2)
  clear hg2
  go_wp2_with fail
  refine (icount_f _ _ hm.out).mono ?_
  rintro e w3 ⟨rfl, hg3⟩
  have x3_1 := hg3.keep X2_1.out
  have x3_2 := hg3.keep X2_2.out
  have x3_3 := hg3.keep X2_3.out
  have x3_4 := hg3.keep X2_4.out
  obtain ⟨_, _, _, _, _⟩ := cells5 x3_1
  have _ := fz x3_1
  have _ := ltb x3_1
  obtain ⟨_, _, _⟩ := cells3 x3_2
  have _ := fz x3_2
  have _ := ltb x3_2
  obtain ⟨_, _⟩ := cells2 x3_3
  have _ := fz x3_3
  have _ := ltb x3_3
  obtain ⟨_, _, _⟩ := cells3 x3_4
  have _ := fz x3_4
  have _ := ltb x3_4
  have X3_1 := hid x3_1; clear x3_1
  have X3_2 := hid x3_2; clear x3_2
  have X3_3 := hid x3_3; clear x3_3
  have X3_4 := hid x3_4; clear x3_4
  have G3 := hid (G2.out.trans hg3)
  clear hg3
  go_wp2
  refine bodyPost_ret (v := .tuple #[spi 0 0 0, .int .i64 0, .int .i64 2]) (by simp [results, Try.results27, go_sem, *]) rfl ⟨rfl, ?_⟩
  exact (((G3.out).setCell (by simp <;> omega) _).setCell (by simp <;> omega) _).setCell (by simp <;> omega) _
set_option maxRecDepth 20000 in
set_option maxHeartbeats 400000 in
theorem iTo_z (a b n c d t p q e f m : Int) (w : World) (h : sdB a b n c d t p q = true) (ho : okB e f = true) (hm : inB m 0 10000 = true) (hz : cmpI e f p q = 0) :
    Calls Try.prog 27 #[sc a b n c d, spi t p q, fr e f, .int .i64 m] w fun e w' => e = .returned (.tuple #[spi t p q, .int .i64 0, .int .i64 0]) ∧ Gr w w' := by
  obtain ⟨hs, ⟨t1, t2⟩, hp, _, _⟩ := sdB_all h
  obtain ⟨m1, m2⟩ := in_bd hm
  have HS := hid hs; have HP := hid hp; clear hs hp
  have h := hid h; have hm := hid hm; have ho := hid ho
  have HZ := hid hz; clear hz
  go_enter Try.func27, Try.ntmps27
  go_wp2_with fail
  refine (ispin_T _ _ _ _ _ _ _ _ _ h.out).mono ?_
  rintro e w1 ⟨rfl, hg1⟩
  obtain ⟨x1_0, x1_1, x1_2, x1_3, hz1, g1⟩ := alloc4 hg1
  obtain ⟨_, _, _, _, _⟩ := cells5 x1_0
  have _ := fz x1_0
  have _ := ltb x1_0
  obtain ⟨_, _, _⟩ := cells3 x1_1
  have _ := fz x1_1
  have _ := ltb x1_1
  obtain ⟨_, _⟩ := cells2 x1_2
  have _ := fz x1_2
  have _ := ltb x1_2
  obtain ⟨_, _, _⟩ := cells3 x1_3
  have _ := fz x1_3
  have _ := ltb x1_3
  have X1_0 := hid x1_0; clear x1_0
  have X1_1 := hid x1_1; clear x1_1
  have X1_2 := hid x1_2; clear x1_2
  have X1_3 := hid x1_3; clear x1_3
  have G1 := hid (g1)
  clear hg1 g1
  go_wp2_with fail
  refine (iok_t _ _ _ ho.out).mono ?_
  rintro e w2 ⟨rfl, hg2⟩
  have x2_1 := hg2.keep X1_0.out
  have x2_2 := hg2.keep X1_1.out
  have x2_3 := hg2.keep X1_2.out
  have x2_4 := hg2.keep X1_3.out
  obtain ⟨_, _, _, _, _⟩ := cells5 x2_1
  have _ := fz x2_1
  have _ := ltb x2_1
  obtain ⟨_, _, _⟩ := cells3 x2_2
  have _ := fz x2_2
  have _ := ltb x2_2
  obtain ⟨_, _⟩ := cells2 x2_3
  have _ := fz x2_3
  have _ := ltb x2_3
  obtain ⟨_, _, _⟩ := cells3 x2_4
  have _ := fz x2_4
  have _ := ltb x2_4
  have X2_1 := hid x2_1; clear x2_1
  have X2_2 := hid x2_2; clear x2_2
  have X2_3 := hid x2_3; clear x2_3
  have X2_4 := hid x2_4; clear x2_4
  have G2 := hid (G1.out.trans hg2)
  clear hg2
  go_wp2_with fail
  refine (icount_t _ _ hm.out).mono ?_
  rintro e w3 ⟨rfl, hg3⟩
  have x3_1 := hg3.keep X2_1.out
  have x3_2 := hg3.keep X2_2.out
  have x3_3 := hg3.keep X2_3.out
  have x3_4 := hg3.keep X2_4.out
  obtain ⟨_, _, _, _, _⟩ := cells5 x3_1
  have _ := fz x3_1
  have _ := ltb x3_1
  obtain ⟨_, _, _⟩ := cells3 x3_2
  have _ := fz x3_2
  have _ := ltb x3_2
  obtain ⟨_, _⟩ := cells2 x3_3
  have _ := fz x3_3
  have _ := ltb x3_3
  obtain ⟨_, _, _⟩ := cells3 x3_4
  have _ := fz x3_4
  have _ := ltb x3_4
  have X3_1 := hid x3_1; clear x3_1
  have X3_2 := hid x3_2; clear x3_2
  have X3_3 := hid x3_3; clear x3_3
  have X3_4 := hid x3_4; clear x3_4
  have G3 := hid (G2.out.trans hg3)
  clear hg3
  go_wp2_with fail
  refine (iord _ _ _ _ _ ho.out HP.out).mono ?_
  rintro e w4 ⟨rfl, hg4⟩
  have x4_1 := hg4.keep X3_1.out
  have x4_2 := hg4.keep X3_2.out
  have x4_3 := hg4.keep X3_3.out
  have x4_4 := hg4.keep X3_4.out
  obtain ⟨_, _, _, _, _⟩ := cells5 x4_1
  have _ := fz x4_1
  have _ := ltb x4_1
  obtain ⟨_, _, _⟩ := cells3 x4_2
  have _ := fz x4_2
  have _ := ltb x4_2
  obtain ⟨_, _⟩ := cells2 x4_3
  have _ := fz x4_3
  have _ := ltb x4_3
  obtain ⟨_, _, _⟩ := cells3 x4_4
  have _ := fz x4_4
  have _ := ltb x4_4
  have X4_1 := hid x4_1; clear x4_1
  have X4_2 := hid x4_2; clear x4_2
  have X4_3 := hid x4_3; clear x4_3
  have X4_4 := hid x4_4; clear x4_4
  have G4 := hid (G3.out.trans hg4)
  clear hg4
  rw [HZ.out]
  go_wp2
  refine bodyPost_ret (v := .tuple #[spi t p q, .int .i64 0, .int .i64 0]) (by simp [results, Try.results27, go_sem, *]) rfl ⟨rfl, ?_⟩
  exact ((((G4.out).setCell (by simp <;> omega) _).setCell (by simp <;> omega) _).setCell (by simp <;> omega) _).al _
set_option maxRecDepth 20000 in
set_option maxHeartbeats 1000000 in
theorem sTo_z (a b n c d t p q e f m : Int) (w : World) (h : sdB a b n c d t p q = true) (ho : okB e f = true) (hm : inB m 0 10000 = true) (hz : cmpI e f p q = 0) :
    Calls Try.prog 25 #[sc a b n c d, spi t p q, fr e f, .int .i64 m] w fun e w' => e = .returned (.tuple #[spi t p q, .int .i64 0, .int .i64 0]) ∧ Gr w w' := by
  obtain ⟨hs, ⟨t1, t2⟩, hp, _, _⟩ := sdB_all h
  obtain ⟨m1, m2⟩ := in_bd hm
  have HS := hid hs; have HP := hid hp; clear hs hp
  have h := hid h; have hm := hid hm; have ho := hid ho
  have HZ := hid hz; clear hz
  go_enter Try.func25, Try.ntmps25
  go_wp2_with fail
  refine (sspin_T _ _ _ _ _ _ _ _ _ _ _ (hid (alloc4 (Gr.refl _)).1) (hid (alloc4 (Gr.refl _)).2.1) h.out).mono ?_
  rintro e w1 ⟨rfl, hg1⟩
  obtain ⟨x1_0, x1_1, x1_2, x1_3, hz1, g1⟩ := alloc4 hg1
  obtain ⟨_, _, _, _, _⟩ := cells5 x1_0
  have _ := fz x1_0
  have _ := ltb x1_0
  obtain ⟨_, _, _⟩ := cells3 x1_1
  have _ := fz x1_1
  have _ := ltb x1_1
  obtain ⟨_, _⟩ := cells2 x1_2
  have _ := fz x1_2
  have _ := ltb x1_2
  obtain ⟨_, _, _⟩ := cells3 x1_3
  have _ := fz x1_3
  have _ := ltb x1_3
  have X1_0 := hid x1_0; clear x1_0
  have X1_1 := hid x1_1; clear x1_1
  have X1_2 := hid x1_2; clear x1_2
  have X1_3 := hid x1_3; clear x1_3
  have G1 := hid (g1)
  clear hg1 g1
  go_wp2_with fail
  refine (sok_t _ _ _ ho.out).mono ?_
  rintro e w2 ⟨rfl, hg2⟩
  have x2_1 := hg2.keep X1_0.out
  have x2_2 := hg2.keep X1_1.out
  have x2_3 := hg2.keep X1_2.out
  have x2_4 := hg2.keep X1_3.out
  obtain ⟨_, _, _, _, _⟩ := cells5 x2_1
  have _ := fz x2_1
  have _ := ltb x2_1
  obtain ⟨_, _, _⟩ := cells3 x2_2
  have _ := fz x2_2
  have _ := ltb x2_2
  obtain ⟨_, _⟩ := cells2 x2_3
  have _ := fz x2_3
  have _ := ltb x2_3
  obtain ⟨_, _, _⟩ := cells3 x2_4
  have _ := fz x2_4
  have _ := ltb x2_4
  have X2_1 := hid x2_1; clear x2_1
  have X2_2 := hid x2_2; clear x2_2
  have X2_3 := hid x2_3; clear x2_3
  have X2_4 := hid x2_4; clear x2_4
  have G2 := hid (G1.out.trans hg2)
  clear hg2
  go_wp2_with fail
  refine (in_t _ _ _ _ hm.out).mono ?_
  rintro e w3 ⟨rfl, hg3⟩
  have x3_1 := hg3.keep X2_1.out
  have x3_2 := hg3.keep X2_2.out
  have x3_3 := hg3.keep X2_3.out
  have x3_4 := hg3.keep X2_4.out
  obtain ⟨_, _, _, _, _⟩ := cells5 x3_1
  have _ := fz x3_1
  have _ := ltb x3_1
  obtain ⟨_, _, _⟩ := cells3 x3_2
  have _ := fz x3_2
  have _ := ltb x3_2
  obtain ⟨_, _⟩ := cells2 x3_3
  have _ := fz x3_3
  have _ := ltb x3_3
  obtain ⟨_, _, _⟩ := cells3 x3_4
  have _ := fz x3_4
  have _ := ltb x3_4
  have X3_1 := hid x3_1; clear x3_1
  have X3_2 := hid x3_2; clear x3_2
  have X3_3 := hid x3_3; clear x3_3
  have X3_4 := hid x3_4; clear x3_4
  have G3 := hid (G2.out.trans hg3)
  clear hg3
  go_wp2_with fail
  refine (scmp_ok _ _ _ _ _ ho.out HP.out).mono ?_
  rintro e w4 ⟨rfl, hg4⟩
  have x4_1 := hg4.keep X3_1.out
  have x4_2 := hg4.keep X3_2.out
  have x4_3 := hg4.keep X3_3.out
  have x4_4 := hg4.keep X3_4.out
  obtain ⟨_, _, _, _, _⟩ := cells5 x4_1
  have _ := fz x4_1
  have _ := ltb x4_1
  obtain ⟨_, _, _⟩ := cells3 x4_2
  have _ := fz x4_2
  have _ := ltb x4_2
  obtain ⟨_, _⟩ := cells2 x4_3
  have _ := fz x4_3
  have _ := ltb x4_3
  obtain ⟨_, _, _⟩ := cells3 x4_4
  have _ := fz x4_4
  have _ := ltb x4_4
  have X4_1 := hid x4_1; clear x4_1
  have X4_2 := hid x4_2; clear x4_2
  have X4_3 := hid x4_3; clear x4_3
  have X4_4 := hid x4_4; clear x4_4
  have G4 := hid (G3.out.trans hg4)
  clear hg4
  rw [HZ.out]
  go_wp2_with fail
  go_loopw [12] (fun u wr => u = .int .i64 0 ∧ Gr w wr ∧ wr.heap[w.heap.size]? = some (.cells #[.int .i64 a, .int .i64 b, .int .i64 n, .int .i64 c, .int .i64 d] 35) ∧ wr.heap[w.heap.size + 1]? = some (.cells #[.int .i64 t, .int .i64 p, .int .i64 q] 42) ∧ wr.heap[w.heap.size + 1 + 1]? = some (.cells #[.int .i64 e, .int .i64 f] 33) ∧ wr.heap[w.heap.size + 1 + 1 + 1]? = some (.cells #[.int .i64 0, .int .i64 0, .int .i64 0] 42)) (fun _ _ => 0)
  case atStart => exact ⟨rfl, G4.out, X4_1.out, X4_2.out, X4_3.out, X4_4.out⟩
  case round =>
    obtain ⟨rfl, g, x0, x1, x2, x3⟩ := hrel
    have GW := hid g; have Z0 := hid x0; have Z1 := hid x1; have Z2 := hid x2; have Z3 := hid x3
    clear g x0 x1 x2 x3
    obtain ⟨_, _, _, _, _⟩ := cells5 Z0.out
    have _ := fz Z0.out
    have _ := ltb Z0.out
    obtain ⟨_, _, _⟩ := cells3 Z1.out
    have _ := fz Z1.out
    have _ := ltb Z1.out
    obtain ⟨_, _⟩ := cells2 Z2.out
    have _ := fz Z2.out
    have _ := ltb Z2.out
    obtain ⟨_, _, _⟩ := cells3 Z3.out
    have _ := fz Z3.out
    have _ := ltb Z3.out
    go_wp2
    refine bodyPost_ret (v := .tuple #[spi t p q, .int .i64 0, .int .i64 0]) (by simp [results, Try.results25, go_sem, *]) rfl ⟨rfl, ?_⟩
    exact (((GW.out).setCell (by simp <;> omega) _).setCell (by simp <;> omega) _).setCell (by simp <;> omega) _
set_option maxRecDepth 20000 in
set_option maxHeartbeats 1000000 in
theorem sTo_y (a b n c d t p q e f m : Int) (w : World) (h : sdB a b n c d t p q = true) (ho : okB e f = true) (hm : inB m 0 10000 = true) (y : Int) (hy : cmpI e f p q = y) (hy1 : y = 1 ∨ y = -1) (r : Moves) (hr : tt a b n c d e f y m.toNat t p q 0 = r) :
    Calls Try.prog 25 #[sc a b n c d, spi t p q, fr e f, .int .i64 m] w fun e w' => e = .returned (toV y r) ∧ Gr w w' := by
  obtain ⟨hs, ⟨t1, t2⟩, hp, _, _⟩ := sdB_all h
  obtain ⟨m1, m2⟩ := in_bd hm
  have HS := hid hs; have HP := hid hp; clear hs hp
  have h := hid h; have hm := hid hm; have ho := hid ho
  have hr := hid hr; have HY := hid hy
  have y1 : -1 ≤ y := by omega
  have y2 : y ≤ 1 := by omega
  have z1 : ((y : Int) == 0) = false := by simp; omega
  have z2 : ((y : Int) != 0) = true := by simp; omega
  have HY1 := hid hy1; clear hy1 hy
  have T1 := hid t1; have T2 := hid t2; clear t1 t2
  go_enter Try.func25, Try.ntmps25
  go_wp2_with fail
  refine (sspin_T _ _ _ _ _ _ _ _ _ _ _ (hid (alloc4 (Gr.refl _)).1) (hid (alloc4 (Gr.refl _)).2.1) h.out).mono ?_
  rintro e w1 ⟨rfl, hg1⟩
  obtain ⟨x1_0, x1_1, x1_2, x1_3, hz1, g1⟩ := alloc4 hg1
  obtain ⟨_, _, _, _, _⟩ := cells5 x1_0
  have _ := fz x1_0
  have _ := ltb x1_0
  obtain ⟨_, _, _⟩ := cells3 x1_1
  have _ := fz x1_1
  have _ := ltb x1_1
  obtain ⟨_, _⟩ := cells2 x1_2
  have _ := fz x1_2
  have _ := ltb x1_2
  obtain ⟨_, _, _⟩ := cells3 x1_3
  have _ := fz x1_3
  have _ := ltb x1_3
  have X1_0 := hid x1_0; clear x1_0
  have X1_1 := hid x1_1; clear x1_1
  have X1_2 := hid x1_2; clear x1_2
  have X1_3 := hid x1_3; clear x1_3
  have G1 := hid (g1)
  clear hg1 g1
  go_wp2_with fail
  refine (sok_t _ _ _ ho.out).mono ?_
  rintro e w2 ⟨rfl, hg2⟩
  have x2_1 := hg2.keep X1_0.out
  have x2_2 := hg2.keep X1_1.out
  have x2_3 := hg2.keep X1_2.out
  have x2_4 := hg2.keep X1_3.out
  obtain ⟨_, _, _, _, _⟩ := cells5 x2_1
  have _ := fz x2_1
  have _ := ltb x2_1
  obtain ⟨_, _, _⟩ := cells3 x2_2
  have _ := fz x2_2
  have _ := ltb x2_2
  obtain ⟨_, _⟩ := cells2 x2_3
  have _ := fz x2_3
  have _ := ltb x2_3
  obtain ⟨_, _, _⟩ := cells3 x2_4
  have _ := fz x2_4
  have _ := ltb x2_4
  have X2_1 := hid x2_1; clear x2_1
  have X2_2 := hid x2_2; clear x2_2
  have X2_3 := hid x2_3; clear x2_3
  have X2_4 := hid x2_4; clear x2_4
  have G2 := hid (G1.out.trans hg2)
  clear hg2
  go_wp2_with fail
  refine (in_t _ _ _ _ hm.out).mono ?_
  rintro e w3 ⟨rfl, hg3⟩
  have x3_1 := hg3.keep X2_1.out
  have x3_2 := hg3.keep X2_2.out
  have x3_3 := hg3.keep X2_3.out
  have x3_4 := hg3.keep X2_4.out
  obtain ⟨_, _, _, _, _⟩ := cells5 x3_1
  have _ := fz x3_1
  have _ := ltb x3_1
  obtain ⟨_, _, _⟩ := cells3 x3_2
  have _ := fz x3_2
  have _ := ltb x3_2
  obtain ⟨_, _⟩ := cells2 x3_3
  have _ := fz x3_3
  have _ := ltb x3_3
  obtain ⟨_, _, _⟩ := cells3 x3_4
  have _ := fz x3_4
  have _ := ltb x3_4
  have X3_1 := hid x3_1; clear x3_1
  have X3_2 := hid x3_2; clear x3_2
  have X3_3 := hid x3_3; clear x3_3
  have X3_4 := hid x3_4; clear x3_4
  have G3 := hid (G2.out.trans hg3)
  clear hg3
  go_wp2_with fail
  refine (scmp_ok _ _ _ _ _ ho.out HP.out).mono ?_
  rintro e w4 ⟨rfl, hg4⟩
  have x4_1 := hg4.keep X3_1.out
  have x4_2 := hg4.keep X3_2.out
  have x4_3 := hg4.keep X3_3.out
  have x4_4 := hg4.keep X3_4.out
  obtain ⟨_, _, _, _, _⟩ := cells5 x4_1
  have _ := fz x4_1
  have _ := ltb x4_1
  obtain ⟨_, _, _⟩ := cells3 x4_2
  have _ := fz x4_2
  have _ := ltb x4_2
  obtain ⟨_, _⟩ := cells2 x4_3
  have _ := fz x4_3
  have _ := ltb x4_3
  obtain ⟨_, _, _⟩ := cells3 x4_4
  have _ := fz x4_4
  have _ := ltb x4_4
  have X4_1 := hid x4_1; clear x4_1
  have X4_2 := hid x4_2; clear x4_2
  have X4_3 := hid x4_3; clear x4_3
  have X4_4 := hid x4_4; clear x4_4
  have G4 := hid (G3.out.trans hg4)
  clear hg4
  rw [HY.out]
  go_wp2_with fail
  go_loopw [12] (fun u wr => ∃ (i : Nat) (s P Q : Int), u = .int .i64 (i : Int) ∧ (i : Int) ≤ m ∧ Gr w wr ∧ wr.heap[w.heap.size]? = some (.cells #[.int .i64 a, .int .i64 b, .int .i64 n, .int .i64 c, .int .i64 d] 35) ∧ wr.heap[w.heap.size + 1]? = some (.cells #[.int .i64 s, .int .i64 P, .int .i64 Q] 42) ∧ wr.heap[w.heap.size + 1 + 1]? = some (.cells #[.int .i64 e, .int .i64 f] 33) ∧ wr.heap[w.heap.size + 1 + 1 + 1]? = some (.cells #[.int .i64 0, .int .i64 0, .int .i64 0] 42) ∧ -10000 ≤ s ∧ s ≤ 10000 ∧ okB P Q = true ∧ tt a b n c d e f y (m.toNat - i) s P Q i = r) (fun u _ => (m - intOf u).toNat)
  case atStart => exact ⟨0, t, p, q, rfl, by simpa using m1, G4.out, X4_1.out, X4_2.out, X4_3.out, X4_4.out, T1.out, T2.out, HP.out, by simpa using hr.out⟩
  case round =>
    obtain ⟨i, s, P, Q, rfl, hi, g, x0, x1, x2, x3, s1, s2, hpq, hm2⟩ := hrel
    have GW := hid g; have Z0 := hid x0; have Z1 := hid x1; have Z2 := hid x2; have Z3 := hid x3; have HPQ := hid hpq
    clear g x0 x1 x2 x3 hpq X4_1 X4_2 X4_3 X4_4 G4
    have B := side_bd HY1.out (show (0 : Int) ≤ i by omega) (show (i : Int) ≤ 10000 by omega)
    obtain ⟨⟨B1, B2⟩, _, _⟩ := B
    obtain ⟨u, hu⟩ : ∃ u, cmpI e f P Q = u := ⟨_, rfl⟩
    have HU := hid hu
    by_cases hd : u = y
    · have hd' : cmpI e f P Q = y := by rw [hu, hd]
      have D' := hid hd'
      by_cases hlt : (i : Int) < m
      · have l1 : ((i : Int) == m) = false := by simp; omega
        obtain ⟨j, hf⟩ : ∃ j, m.toNat - i = j + 1 := ⟨m.toNat - i - 1, by omega⟩
        rw [hf] at hm2
        unfold tt at hm2
        rw [if_pos hd'] at hm2
        by_cases hC : stC a b n c d s y = 0
        · rw [if_pos hC] at hm2
          obtain ⟨P2, eP⟩ : ∃ P2, atP a b n c d (s + y) P Q = P2 := ⟨_, rfl⟩
          obtain ⟨Q2, eQ⟩ : ∃ Q2, atQ a b n c d (s + y) P Q = Q2 := ⟨_, rfl⟩
          obtain ⟨i12, _, hge⟩ := stC_ok hC
          have ok2 := at_ok HPQ.out hge
          rw [eP, eQ] at ok2 hm2
          have OK2 := hid ok2; have I := hid i12; have HM := hid hm2; have HF := hid hf; have HC := hid hC; have EP := hid eP; have EQ := hid eQ
          clear ok2 i12 hge eP eQ hC hm2 hf hd hd' hu HU
          obtain ⟨_, _, _, _, _⟩ := cells5 Z0.out
          have _ := fz Z0.out
          have _ := ltb Z0.out
          obtain ⟨_, _, _⟩ := cells3 Z1.out
          have _ := fz Z1.out
          have _ := ltb Z1.out
          obtain ⟨_, _⟩ := cells2 Z2.out
          have _ := fz Z2.out
          have _ := ltb Z2.out
          obtain ⟨_, _, _⟩ := cells3 Z3.out
          have _ := fz Z3.out
          have _ := ltb Z3.out
          go_wp2_with fail
          refine (scmp_ok _ _ _ _ _ ho.out HPQ.out).mono ?_
          rintro e w1 ⟨rfl, hg1⟩
          have x1_1 := hg1.keep Z0.out
          have x1_2 := hg1.keep Z1.out
          have x1_3 := hg1.keep Z2.out
          have x1_4 := hg1.keep Z3.out
          obtain ⟨_, _, _, _, _⟩ := cells5 x1_1
          have _ := fz x1_1
          have _ := ltb x1_1
          obtain ⟨_, _, _⟩ := cells3 x1_2
          have _ := fz x1_2
          have _ := ltb x1_2
          obtain ⟨_, _⟩ := cells2 x1_3
          have _ := fz x1_3
          have _ := ltb x1_3
          obtain ⟨_, _, _⟩ := cells3 x1_4
          have _ := fz x1_4
          have _ := ltb x1_4
          have X1_1 := hid x1_1; clear x1_1
          have X1_2 := hid x1_2; clear x1_2
          have X1_3 := hid x1_3; clear x1_3
          have X1_4 := hid x1_4; clear x1_4
          have G1 := hid (GW.out.trans hg1)
          clear hg1
          rw [D'.out]
          go_wp2_with fail
          refine (sturn_ok _ _ _ _ _ _ _ _ _ _ _ (hid X1_1.out) HS.out HPQ.out (by omega) (by omega) HC.out _ _ EP.out EQ.out).mono ?_
          rintro e w2 ⟨rfl, hg2⟩
          have x2_1 := hg2.keep X1_1.out
          have x2_2 := hg2.keep X1_2.out
          have x2_3 := hg2.keep X1_3.out
          have x2_4 := hg2.keep X1_4.out
          obtain ⟨_, _, _, _, _⟩ := cells5 x2_1
          have _ := fz x2_1
          have _ := ltb x2_1
          obtain ⟨_, _, _⟩ := cells3 x2_2
          have _ := fz x2_2
          have _ := ltb x2_2
          obtain ⟨_, _⟩ := cells2 x2_3
          have _ := fz x2_3
          have _ := ltb x2_3
          obtain ⟨_, _, _⟩ := cells3 x2_4
          have _ := fz x2_4
          have _ := ltb x2_4
          have X2_1 := hid x2_1; clear x2_1
          have X2_2 := hid x2_2; clear x2_2
          have X2_3 := hid x2_3; clear x2_3
          have X2_4 := hid x2_4; clear x2_4
          have G2 := hid (G1.out.trans hg2)
          clear hg2
          go_wp2_with fail
          refine ⟨⟨i + 1, s + y, P2, Q2, by simp, by omega, (((G2.out.setCell (by simp) _).setCell (by simp) _).setCell (by simp) _).al _, ((Gr.refl _).al _).keep (set3_old X2_1.out (by omega)), ((Gr.refl _).al _).keep (set3_new X2_2.out), ((Gr.refl _).al _).keep (set3_old X2_3.out (by omega)), ((Gr.refl _).al _).keep (set3_old X2_4.out (by omega)), I.out.1, I.out.2, OK2.out, ?_⟩, by simp [intOf]; omega⟩
          rw [show m.toNat - (i + 1) = j by have := HF.out; omega]
          exact HM.out
        · rw [if_neg hC] at hm2
          clear hf
          obtain ⟨C, eC⟩ : ∃ C, stC a b n c d s y = C := ⟨_, rfl⟩
          rw [eC] at hC hm2
          have EC := hid eC; clear eC
          have HC := hid hC
          have HM := hid hm2; clear hm2
          have c1 : ((C : Int) == 0) = false := by simpa using hC
          have c2 : ((C : Int) != 0) = true := by simpa using hC
          clear hC hd hd' hu HU
          obtain ⟨_, _, _, _, _⟩ := cells5 Z0.out
          have _ := fz Z0.out
          have _ := ltb Z0.out
          obtain ⟨_, _, _⟩ := cells3 Z1.out
          have _ := fz Z1.out
          have _ := ltb Z1.out
          obtain ⟨_, _⟩ := cells2 Z2.out
          have _ := fz Z2.out
          have _ := ltb Z2.out
          obtain ⟨_, _, _⟩ := cells3 Z3.out
          have _ := fz Z3.out
          have _ := ltb Z3.out
          go_wp2_with fail
          refine (scmp_ok _ _ _ _ _ ho.out HPQ.out).mono ?_
          rintro e w1 ⟨rfl, hg1⟩
          have x1_1 := hg1.keep Z0.out
          have x1_2 := hg1.keep Z1.out
          have x1_3 := hg1.keep Z2.out
          have x1_4 := hg1.keep Z3.out
          obtain ⟨_, _, _, _, _⟩ := cells5 x1_1
          have _ := fz x1_1
          have _ := ltb x1_1
          obtain ⟨_, _, _⟩ := cells3 x1_2
          have _ := fz x1_2
          have _ := ltb x1_2
          obtain ⟨_, _⟩ := cells2 x1_3
          have _ := fz x1_3
          have _ := ltb x1_3
          obtain ⟨_, _, _⟩ := cells3 x1_4
          have _ := fz x1_4
          have _ := ltb x1_4
          have X1_1 := hid x1_1; clear x1_1
          have X1_2 := hid x1_2; clear x1_2
          have X1_3 := hid x1_3; clear x1_3
          have X1_4 := hid x1_4; clear x1_4
          have G1 := hid (GW.out.trans hg1)
          clear hg1
          rw [D'.out]
          go_wp2_with fail
          refine (sturn_no _ _ _ _ _ _ _ _ _ _ _ (hid X1_1.out) HS.out s1 s2 (by omega) (by omega) _ EC.out HC.out).mono ?_
          rintro e w2 ⟨rfl, hg2⟩
          have x2_1 := hg2.keep X1_1.out
          have x2_2 := hg2.keep X1_2.out
          have x2_3 := hg2.keep X1_3.out
          have x2_4 := hg2.keep X1_4.out
          obtain ⟨_, _, _, _, _⟩ := cells5 x2_1
          have _ := fz x2_1
          have _ := ltb x2_1
          obtain ⟨_, _, _⟩ := cells3 x2_2
          have _ := fz x2_2
          have _ := ltb x2_2
          obtain ⟨_, _⟩ := cells2 x2_3
          have _ := fz x2_3
          have _ := ltb x2_3
          obtain ⟨_, _, _⟩ := cells3 x2_4
          have _ := fz x2_4
          have _ := ltb x2_4
          have X2_1 := hid x2_1; clear x2_1
          have X2_2 := hid x2_2; clear x2_2
          have X2_3 := hid x2_3; clear x2_3
          have X2_4 := hid x2_4; clear x2_4
          have G2 := hid (G1.out.trans hg2)
          clear hg2
          go_wp2
          refine bodyPost_ret (v := .tuple #[spi 0 0 0, .int .i64 0, .int .i64 C]) (by simp [results, Try.results25, go_sem, *]) rfl ⟨(by rw [← HM.out]; simp [toV]), ?_⟩
          exact ((((G2.out).setCell (by simp <;> omega) _).setCell (by simp <;> omega) _).setCell (by simp <;> omega) _).al _
      · have l1 : ((i : Int) == m) = true := by simp; omega
        have e0 : m.toNat - i = 0 := by omega
        rw [e0] at hm2
        unfold tt at hm2
        rw [if_pos hd'] at hm2
        have HM := hid hm2; clear hm2 hd hd' hu HU e0
        obtain ⟨_, _, _, _, _⟩ := cells5 Z0.out
        have _ := fz Z0.out
        have _ := ltb Z0.out
        obtain ⟨_, _, _⟩ := cells3 Z1.out
        have _ := fz Z1.out
        have _ := ltb Z1.out
        obtain ⟨_, _⟩ := cells2 Z2.out
        have _ := fz Z2.out
        have _ := ltb Z2.out
        obtain ⟨_, _, _⟩ := cells3 Z3.out
        have _ := fz Z3.out
        have _ := ltb Z3.out
        go_wp2_with fail
        refine (scmp_ok _ _ _ _ _ ho.out HPQ.out).mono ?_
        rintro e w1 ⟨rfl, hg1⟩
        have x1_1 := hg1.keep Z0.out
        have x1_2 := hg1.keep Z1.out
        have x1_3 := hg1.keep Z2.out
        have x1_4 := hg1.keep Z3.out
        obtain ⟨_, _, _, _, _⟩ := cells5 x1_1
        have _ := fz x1_1
        have _ := ltb x1_1
        obtain ⟨_, _, _⟩ := cells3 x1_2
        have _ := fz x1_2
        have _ := ltb x1_2
        obtain ⟨_, _⟩ := cells2 x1_3
        have _ := fz x1_3
        have _ := ltb x1_3
        obtain ⟨_, _, _⟩ := cells3 x1_4
        have _ := fz x1_4
        have _ := ltb x1_4
        have X1_1 := hid x1_1; clear x1_1
        have X1_2 := hid x1_2; clear x1_2
        have X1_3 := hid x1_3; clear x1_3
        have X1_4 := hid x1_4; clear x1_4
        have G1 := hid (GW.out.trans hg1)
        clear hg1
        rw [D'.out]
        go_wp2
        refine bodyPost_ret (v := .tuple #[spi 0 0 0, .int .i64 0, .int .i64 7]) (by simp [results, Try.results25, go_sem, *]) rfl ⟨(by rw [← HM.out]; simp [toV]), ?_⟩
        exact (((G1.out).setCell (by simp <;> omega) _).setCell (by simp <;> omega) _).setCell (by simp <;> omega) _
    · have hd' : ¬ cmpI e f P Q = y := by rw [hu]; exact hd
      have d1 : ((u : Int) == y) = false := by simpa using hd
      have HM : Hid ((⟨s, P, Q, i, 0⟩ : Moves) = r) := hid (by
        cases hk : m.toNat - i with
        | zero => rw [hk] at hm2; unfold tt at hm2; rw [if_neg hd'] at hm2; exact hm2
        | succ k => rw [hk] at hm2; unfold tt at hm2; rw [if_neg hd'] at hm2; exact hm2)
      clear hm2 hd hd' hu
      obtain ⟨_, _, _, _, _⟩ := cells5 Z0.out
      have _ := fz Z0.out
      have _ := ltb Z0.out
      obtain ⟨_, _, _⟩ := cells3 Z1.out
      have _ := fz Z1.out
      have _ := ltb Z1.out
      obtain ⟨_, _⟩ := cells2 Z2.out
      have _ := fz Z2.out
      have _ := ltb Z2.out
      obtain ⟨_, _, _⟩ := cells3 Z3.out
      have _ := fz Z3.out
      have _ := ltb Z3.out
      go_wp2_with fail
      refine (scmp_ok _ _ _ _ _ ho.out HPQ.out).mono ?_
      rintro e w1 ⟨rfl, hg1⟩
      have x1_1 := hg1.keep Z0.out
      have x1_2 := hg1.keep Z1.out
      have x1_3 := hg1.keep Z2.out
      have x1_4 := hg1.keep Z3.out
      obtain ⟨_, _, _, _, _⟩ := cells5 x1_1
      have _ := fz x1_1
      have _ := ltb x1_1
      obtain ⟨_, _, _⟩ := cells3 x1_2
      have _ := fz x1_2
      have _ := ltb x1_2
      obtain ⟨_, _⟩ := cells2 x1_3
      have _ := fz x1_3
      have _ := ltb x1_3
      obtain ⟨_, _, _⟩ := cells3 x1_4
      have _ := fz x1_4
      have _ := ltb x1_4
      have X1_1 := hid x1_1; clear x1_1
      have X1_2 := hid x1_2; clear x1_2
      have X1_3 := hid x1_3; clear x1_3
      have X1_4 := hid x1_4; clear x1_4
      have G1 := hid (GW.out.trans hg1)
      clear hg1
      rw [HU.out]
      go_wp2
      refine bodyPost_ret (v := .tuple #[spi s P Q, .int .i64 (y * (i : Int)), .int .i64 0]) (by simp [results, Try.results25, go_sem, *]) rfl ⟨(by rw [← HM.out]; rfl), ?_⟩
      exact (((G1.out).setCell (by simp <;> omega) _).setCell (by simp <;> omega) _).setCell (by simp <;> omega) _
set_option maxRecDepth 20000 in
set_option maxHeartbeats 1000000 in
theorem iTo_y (a b n c d t p q e f m : Int) (w : World) (h : sdB a b n c d t p q = true) (ho : okB e f = true) (hm : inB m 0 10000 = true) (y : Int) (hy : cmpI e f p q = y) (hy1 : y = 1 ∨ y = -1) (T P Q N C : Int) (hr : tu a b n c d e f y m.toNat t p q 0 = ⟨T, P, Q, N, C⟩) :
    Calls Try.prog 27 #[sc a b n c d, spi t p q, fr e f, .int .i64 m] w fun e w' => e = .returned (.tuple #[spi T P Q, .int .i64 (N * y), .int .i64 C]) ∧ Gr w w' := by
  obtain ⟨hs, ⟨t1, t2⟩, hp, _, _⟩ := sdB_all h
  obtain ⟨m1, m2⟩ := in_bd hm
  have HS := hid hs; have HP := hid hp; clear hs hp
  have h := hid h; have hm := hid hm; have ho := hid ho
  have B := hid (show -10000 ≤ N * y ∧ N * y ≤ 10000 by
    rcases tu_n _ _ _ _ _ _ hr (by omega) with h' | h'
    · have : N = 0 := h'.2.2.2.2
      subst this; omega
    · have h1 : 0 ≤ N := h'.2.1
      have h2 : N ≤ 0 + (m.toNat : Int) := h'.2.2
      exact (side_bd hy1 h1 (by omega)).2)
  have hr := hid hr; have HY := hid hy
  have z1 : ((y : Int) == 0) = false := by simp; omega
  have y1 : -20000 ≤ y := by omega
  have y2 : y ≤ 20000 := by omega
  have Y := hid (And.intro y1 y2)
  clear hy hy1 y1 y2
  go_enter Try.func27, Try.ntmps27
  go_wp2_with fail
  refine (ispin_T _ _ _ _ _ _ _ _ _ h.out).mono ?_
  rintro e w1 ⟨rfl, hg1⟩
  obtain ⟨x1_0, x1_1, x1_2, x1_3, hz1, g1⟩ := alloc4 hg1
  obtain ⟨_, _, _, _, _⟩ := cells5 x1_0
  have _ := fz x1_0
  have _ := ltb x1_0
  obtain ⟨_, _, _⟩ := cells3 x1_1
  have _ := fz x1_1
  have _ := ltb x1_1
  obtain ⟨_, _⟩ := cells2 x1_2
  have _ := fz x1_2
  have _ := ltb x1_2
  obtain ⟨_, _, _⟩ := cells3 x1_3
  have _ := fz x1_3
  have _ := ltb x1_3
  have X1_0 := hid x1_0; clear x1_0
  have X1_1 := hid x1_1; clear x1_1
  have X1_2 := hid x1_2; clear x1_2
  have X1_3 := hid x1_3; clear x1_3
  have G1 := hid (g1)
  clear hg1 g1
  go_wp2_with fail
  refine (iok_t _ _ _ ho.out).mono ?_
  rintro e w2 ⟨rfl, hg2⟩
  have x2_1 := hg2.keep X1_0.out
  have x2_2 := hg2.keep X1_1.out
  have x2_3 := hg2.keep X1_2.out
  have x2_4 := hg2.keep X1_3.out
  obtain ⟨_, _, _, _, _⟩ := cells5 x2_1
  have _ := fz x2_1
  have _ := ltb x2_1
  obtain ⟨_, _, _⟩ := cells3 x2_2
  have _ := fz x2_2
  have _ := ltb x2_2
  obtain ⟨_, _⟩ := cells2 x2_3
  have _ := fz x2_3
  have _ := ltb x2_3
  obtain ⟨_, _, _⟩ := cells3 x2_4
  have _ := fz x2_4
  have _ := ltb x2_4
  have X2_1 := hid x2_1; clear x2_1
  have X2_2 := hid x2_2; clear x2_2
  have X2_3 := hid x2_3; clear x2_3
  have X2_4 := hid x2_4; clear x2_4
  have G2 := hid (G1.out.trans hg2)
  clear hg2
  go_wp2_with fail
  refine (icount_t _ _ hm.out).mono ?_
  rintro e w3 ⟨rfl, hg3⟩
  have x3_1 := hg3.keep X2_1.out
  have x3_2 := hg3.keep X2_2.out
  have x3_3 := hg3.keep X2_3.out
  have x3_4 := hg3.keep X2_4.out
  obtain ⟨_, _, _, _, _⟩ := cells5 x3_1
  have _ := fz x3_1
  have _ := ltb x3_1
  obtain ⟨_, _, _⟩ := cells3 x3_2
  have _ := fz x3_2
  have _ := ltb x3_2
  obtain ⟨_, _⟩ := cells2 x3_3
  have _ := fz x3_3
  have _ := ltb x3_3
  obtain ⟨_, _, _⟩ := cells3 x3_4
  have _ := fz x3_4
  have _ := ltb x3_4
  have X3_1 := hid x3_1; clear x3_1
  have X3_2 := hid x3_2; clear x3_2
  have X3_3 := hid x3_3; clear x3_3
  have X3_4 := hid x3_4; clear x3_4
  have G3 := hid (G2.out.trans hg3)
  clear hg3
  go_wp2_with fail
  refine (iord _ _ _ _ _ ho.out HP.out).mono ?_
  rintro e w4 ⟨rfl, hg4⟩
  have x4_1 := hg4.keep X3_1.out
  have x4_2 := hg4.keep X3_2.out
  have x4_3 := hg4.keep X3_3.out
  have x4_4 := hg4.keep X3_4.out
  obtain ⟨_, _, _, _, _⟩ := cells5 x4_1
  have _ := fz x4_1
  have _ := ltb x4_1
  obtain ⟨_, _, _⟩ := cells3 x4_2
  have _ := fz x4_2
  have _ := ltb x4_2
  obtain ⟨_, _⟩ := cells2 x4_3
  have _ := fz x4_3
  have _ := ltb x4_3
  obtain ⟨_, _, _⟩ := cells3 x4_4
  have _ := fz x4_4
  have _ := ltb x4_4
  have X4_1 := hid x4_1; clear x4_1
  have X4_2 := hid x4_2; clear x4_2
  have X4_3 := hid x4_3; clear x4_3
  have X4_4 := hid x4_4; clear x4_4
  have G4 := hid (G3.out.trans hg4)
  clear hg4
  rw [HY.out]
  go_wp2_with fail
  refine (iuntil _ _ _ _ _ _ _ _ _ _ _ _ _ _ _ _ (hid (((Gr.refl _).al _).keep X4_3.out)) (hid (alloc1 (Gr.refl _)).1) HS.out HP.out ho.out t1 t2 Y.out.1 Y.out.2 m1 m2 _ hr.out).mono ?_
  rintro e w5 ⟨rfl, hg5⟩
  obtain ⟨x5_0, hz5, g5⟩ := alloc1 hg5
  have x5_1 := g5.keep X4_1.out
  have x5_2 := g5.keep X4_2.out
  have x5_3 := g5.keep X4_3.out
  have x5_4 := g5.keep X4_4.out
  obtain ⟨_, _, _, _, _⟩ := cells5 x5_1
  have _ := fz x5_1
  have _ := ltb x5_1
  obtain ⟨_, _, _⟩ := cells3 x5_2
  have _ := fz x5_2
  have _ := ltb x5_2
  obtain ⟨_, _⟩ := cells2 x5_3
  have _ := fz x5_3
  have _ := ltb x5_3
  obtain ⟨_, _, _⟩ := cells3 x5_4
  have _ := fz x5_4
  have _ := ltb x5_4
  have _ := cells1 x5_0
  have _ := fz x5_0
  have _ := ltb x5_0
  have X5_1 := hid x5_1; clear x5_1
  have X5_2 := hid x5_2; clear x5_2
  have X5_3 := hid x5_3; clear x5_3
  have X5_4 := hid x5_4; clear x5_4
  have X5_0 := hid x5_0; clear x5_0
  have G5 := hid (G4.out.trans g5)
  clear hg5 g5
  unfold mvV
  go_wp2_with fail
  have M0 := hid (ne_of X5_1.out X5_4.out (by first | omega))
  have M1 := hid (ne_of X5_2.out X5_4.out (by first | omega))
  have M2 := hid (ne_of X5_3.out X5_4.out (by first | omega))
  have M4 := hid (ne_of X5_0.out X5_4.out (by first | omega))
  refine wp_regO 7 5 8 48 (by kernel_rfl) (by kernel_rfl) rfl (by decide) rfl rfl rfl rfl (by kernel_rfl) (((Gr.refl _).al _).keep X5_4.out) (by kernel_rfl) ?_
  apply Exists.intro; apply Exists.intro
  refine ⟨fun wb hb => ?_, ?_⟩
  · have ew : IntKind.i64.wrap (N * y) = N * y := IntWalk.i64_in _ (by have := B.out; omega)
    obtain ⟨_, _, _⟩ := atO3 hb (alloc1 (Gr.refl _)).1 (by omega)
    obtain ⟨_, _, _, _, _⟩ := atO5 hb (((Gr.refl _).al _).keep X5_1.out) M0.out
    obtain ⟨_, _, _⟩ := atO3 hb (((Gr.refl _).al _).keep X5_2.out) M1.out
    obtain ⟨_, _⟩ := atO2 hb (((Gr.refl _).al _).keep X5_3.out) M2.out
    have _ := atO1 hb (((Gr.refl _).al _).keep X5_0.out) M4.out
    simp only [headOps, List.contains, List.elem, Nat.reduceAdd, Nat.reduceBEq, reduceIte, Bool.false_eq_true, dumOp]
    repeat (first | go_big_quiet_step (first | (fail)) | quiet_step (fail))
    exact wpQuiet_nil rfl
  refine ⟨rfl, ⟨rfl, by simp [Value.oneCell']⟩, fun w6 hg6 => ?_⟩
  have x6_0 := hg6.keep (row_old (((Gr.refl _).al _).keep X5_1.out) M0.out)
  have x6_1 := hg6.keep (row_old (((Gr.refl _).al _).keep X5_2.out) M1.out)
  have x6_2 := hg6.keep (row_old (((Gr.refl _).al _).keep X5_3.out) M2.out)
  have x6_3 := hg6.keep (row_new (((Gr.refl _).al _).keep X5_4.out))
  have x6_4 := hg6.keep (row_old (((Gr.refl _).al _).keep X5_0.out) M4.out)
  have x6_5 := hg6.keep (row_old (alloc1 (Gr.refl _)).1 (by omega))
  obtain ⟨_, _, _, _, _⟩ := cells5 x6_0
  have _ := fz x6_0
  have _ := ltb x6_0
  obtain ⟨_, _, _⟩ := cells3 x6_1
  have _ := fz x6_1
  have _ := ltb x6_1
  obtain ⟨_, _⟩ := cells2 x6_2
  have _ := fz x6_2
  have _ := ltb x6_2
  obtain ⟨_, _, _⟩ := cells3 x6_3
  have _ := fz x6_3
  have _ := ltb x6_3
  have _ := cells1 x6_4
  have _ := fz x6_4
  have _ := ltb x6_4
  obtain ⟨_, _, _⟩ := cells3 x6_5
  have _ := fz x6_5
  have _ := ltb x6_5
  have X6_0 := hid x6_0; clear x6_0
  have X6_1 := hid x6_1; clear x6_1
  have X6_2 := hid x6_2; clear x6_2
  have X6_3 := hid x6_3; clear x6_3
  have X6_4 := hid x6_4; clear x6_4
  have X6_5 := hid x6_5; clear x6_5
  have G6 := hid ((((G5.out).al _).setRow (by first | omega | (simp; done) | (simp; omega)) _).trans hg6); clear hg6
  go_wp2
  refine bodyPost_ret (v := .tuple #[spi T P Q, .int .i64 (N * y), .int .i64 C]) (by simp [results, Try.results27, go_sem, *]) rfl ⟨rfl, ?_⟩
  exact G6.out
theorem bothTurnTo (a b n c d t p q e f m : Int) : ∃ T P Q N C : Int, (∀ w, Calls Try.prog 25 #[sc a b n c d, spi t p q, fr e f, .int .i64 m] w fun e w' => e = .returned (.tuple #[spi T P Q, .int .i64 N, .int .i64 C]) ∧ Gr w w') ∧ (∀ w, Calls Try.prog 27 #[sc a b n c d, spi t p q, fr e f, .int .i64 m] w fun e w' => e = .returned (.tuple #[spi T P Q, .int .i64 N, .int .i64 C]) ∧ Gr w w') := by
  cases h : sdB a b n c d t p q with
  | false => exact ⟨0, 0, 0, 0, 1, fun w => sTo_n1 _ _ _ _ _ _ _ _ _ _ _ w h, fun w => iTo_n1 _ _ _ _ _ _ _ _ _ _ _ w h⟩
  | true =>
    cases ho : okB e f with
    | false => exact ⟨0, 0, 0, 0, 1, fun w => sTo_n2 _ _ _ _ _ _ _ _ _ _ _ w h ho, fun w => iTo_n2 _ _ _ _ _ _ _ _ _ _ _ w h ho⟩
    | true =>
      cases hm : inB m 0 10000 with
      | false => exact ⟨0, 0, 0, 0, 2, fun w => sTo_n3 _ _ _ _ _ _ _ _ _ _ _ w h ho hm, fun w => iTo_n3 _ _ _ _ _ _ _ _ _ _ _ w h ho hm⟩
      | true =>
        by_cases hz : cmpI e f p q = 0
        · exact ⟨t, p, q, 0, 0, fun w => sTo_z _ _ _ _ _ _ _ _ _ _ _ w h ho hm hz, fun w => iTo_z _ _ _ _ _ _ _ _ _ _ _ w h ho hm hz⟩
        · have hy1 := cmp_one hz
          obtain ⟨y, hy⟩ : ∃ y, cmpI e f p q = y := ⟨_, rfl⟩
          rw [hy] at hy1
          obtain ⟨⟨T, P, Q, N, C⟩, hr⟩ : ∃ r, tu a b n c d e f y m.toNat t p q 0 = r := ⟨_, rfl⟩
          refine ⟨T, P, Q, N * y, C, fun w => ?_, fun w => iTo_y _ _ _ _ _ _ _ _ _ _ _ w h ho hm y hy hy1 T P Q N C hr⟩
          have := sTo_y a b n c d t p q e f m w h ho hm y hy hy1 _ ((tt_tu m.toNat t p q 0 hy).trans hr)
          unfold toV at this
          rw [Int.mul_comm N y]
          exact this
end Go.Proofs.Ytjcebojmfoppaaa
