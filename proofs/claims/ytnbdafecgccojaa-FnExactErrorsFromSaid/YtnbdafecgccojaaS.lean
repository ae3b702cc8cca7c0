/- WALKS: spans of sums and differences: the program's. -/
import Derived.Test.YtnbdafecgccojaaR
namespace Go.Proofs.Ytnbdafecgccojaa
open Go.RowKit Go.Sort

theorem plus_yes (a b c d : Int) (w : World) (h1 : okB a b = true) (h2 : okB c d = true) (hk : okB (redP (a*d+c*b) (b*d)) (redQ (a*d+c*b) (b*d)) = true) :
    Calls Try.prog 129 #[fr a b, fr c d] w fun e w' => e = .returned (fr (redP (a*d+c*b) (b*d)) (redQ (a*d+c*b) (b*d))) ∧ Gr w w' := by
  obtain ⟨b1, b2, b3, b4⟩ := okB_bd h1
  obtain ⟨d1, d2, d3, d4⟩ := okB_bd h2
  exact plus_ok a b c d w b1 b2 b3 b4 d1 d2 d3 d4 hk
theorem plus_no (a b c d : Int) (w : World) (h1 : okB a b = true) (h2 : okB c d = true) (hk : okB (redP (a*d+c*b) (b*d)) (redQ (a*d+c*b) (b*d)) = false) :
    Calls Try.prog 129 #[fr a b, fr c d] w fun e w' => (∃ x y, e = .panicked [{ v := .iface 212 (fr x y), recovered := false }]) ∧ Gr w w' := by
  obtain ⟨b1, b2, b3, b4⟩ := okB_bd h1
  obtain ⟨d1, d2, d3, d4⟩ := okB_bd h2
  exact plus_bad a b c d w b1 b2 b3 b4 d1 d2 d3 d4 hk
theorem minus_yes (a b c d : Int) (w : World) (h1 : okB a b = true) (h2 : okB c d = true) (hk : okB (redP (a*d-c*b) (b*d)) (redQ (a*d-c*b) (b*d)) = true) :
    Calls Try.prog 160 #[fr a b, fr c d] w fun e w' => e = .returned (fr (redP (a*d-c*b) (b*d)) (redQ (a*d-c*b) (b*d))) ∧ Gr w w' := by
  obtain ⟨b1, b2, b3, b4⟩ := okB_bd h1
  obtain ⟨d1, d2, d3, d4⟩ := okB_bd h2
  exact minus_ok a b c d w b1 b2 b3 b4 d1 d2 d3 d4 hk
theorem minus_no (a b c d : Int) (w : World) (h1 : okB a b = true) (h2 : okB c d = true) (hk : okB (redP (a*d-c*b) (b*d)) (redQ (a*d-c*b) (b*d)) = false) :
    Calls Try.prog 160 #[fr a b, fr c d] w fun e w' => (∃ x y, e = .panicked [{ v := .iface 212 (fr x y), recovered := false }]) ∧ Gr w w' := by
  obtain ⟨b1, b2, b3, b4⟩ := okB_bd h1
  obtain ⟨d1, d2, d3, d4⟩ := okB_bd h2
  exact minus_bad a b c d w b1 b2 b3 b4 d1 d2 d3 d4 hk
theorem times_yes (a b c d : Int) (w : World) (h1 : okB a b = true) (h2 : okB c d = true) (hk : okB (redP (a*c) (b*d)) (redQ (a*c) (b*d)) = true) :
    Calls Try.prog 130 #[fr a b, fr c d] w fun e w' => e = .returned (fr (redP (a*c) (b*d)) (redQ (a*c) (b*d))) ∧ Gr w w' := by
  obtain ⟨b1, b2, b3, b4⟩ := okB_bd h1
  obtain ⟨d1, d2, d3, d4⟩ := okB_bd h2
  exact times_ok a b c d w b1 b2 b3 b4 d1 d2 d3 d4 hk
theorem times_no (a b c d : Int) (w : World) (h1 : okB a b = true) (h2 : okB c d = true) (hk : okB (redP (a*c) (b*d)) (redQ (a*c) (b*d)) = false) :
    Calls Try.prog 130 #[fr a b, fr c d] w fun e w' => (∃ x y, e = .panicked [{ v := .iface 212 (fr x y), recovered := false }]) ∧ Gr w w' := by
  obtain ⟨b1, b2, b3, b4⟩ := okB_bd h1
  obtain ⟨d1, d2, d3, d4⟩ := okB_bd h2
  exact times_bad a b c d w b1 b2 b3 b4 d1 d2 d3 d4 hk
set_option maxRecDepth 20000 in
set_option maxHeartbeats 400000 in
theorem caround_ok (a b c d : Int) (k4 k5 : Nat) (w : World) (X4 : Hid (w.heap[k4]? = some (.cells #[.int .i64 a, .int .i64 b] 30))) (X5 : Hid (w.heap[k5]? = some (.cells #[.int .i64 c, .int .i64 d] 30))) (h1 : okB a b = true) (h2 : okB c d = true) (k1 : okB (redP (a*d-c*b) (b*d)) (redQ (a*d-c*b) (b*d)) = true) (k2 : okB (redP (a*d+c*b) (b*d)) (redQ (a*d+c*b) (b*d)) = true) :
    Calls Try.prog 159 #[.pointer (some ⟨k4, 0, none⟩), .pointer (some ⟨k5, 0, none⟩)] w fun e w' => e = .returned (sp (redP (a*d-c*b) (b*d)) (redQ (a*d-c*b) (b*d)) (redP (a*d+c*b) (b*d)) (redQ (a*d+c*b) (b*d))) ∧ Gr w w' := by
  have h1 := hid h1
  have h2 := hid h2
  have k1 := hid k1
  have k2 := hid k2
  go_enter Try.func159, Try.ntmps159
  obtain ⟨_, _⟩ := cells2 X4.out
  have _ := fz X4.out
  have _ := ltb X4.out
  obtain ⟨_, _⟩ := cells2 X5.out
  have _ := fz X5.out
  have _ := ltb X5.out
  go_wp2_with fail
  refine wp_reg0 7 (by kernel_rfl) (by kernel_rfl) ?_
  apply Exists.intro
  refine ⟨fun wb hb => ?_, ?_⟩
  · obtain ⟨y0, _, _⟩ := alloc1 (Gr.refl _)
    obtain ⟨_, _, _, _⟩ := hb.at4 y0
    clear y0
    obtain ⟨_, _⟩ := hb.at2 (((Gr.refl _).al _).keep X4.out)
    obtain ⟨_, _⟩ := hb.at2 (((Gr.refl _).al _).keep X5.out)
    simp only [headOps, List.contains, List.elem, reduceIte, Bool.false_eq_true]
    repeat (first | go_big_quiet_step (first | (go_at_call 160; with_reducible exact Calls.of_gr (minus_yes a b c d _ h1.out h2.out k1.out)) | (go_at_call 129; with_reducible exact Calls.of_gr (plus_yes a b c d _ h1.out h2.out k2.out))) | quiet_step (fail))
    exact wpQuiet_nil rfl
  intro w1 hg1
  obtain ⟨x1_0, hz1, g1⟩ := alloc1 hg1
  have x1_1 := g1.keep X4.out
  have x1_2 := g1.keep X5.out
  obtain ⟨_, _, _, _⟩ := cells4 x1_0
  have _ := fz x1_0
  have _ := ltb x1_0
  obtain ⟨_, _⟩ := cells2 x1_1
  have _ := fz x1_1
  have _ := ltb x1_1
  obtain ⟨_, _⟩ := cells2 x1_2
  have _ := fz x1_2
  have _ := ltb x1_2
  have X1_0 := hid x1_0; clear x1_0
  have X1_1 := hid x1_1; clear x1_1
  have X1_2 := hid x1_2; clear x1_2
  have G1 := hid (g1)
  clear hg1 g1
  go_wp2
  refine bodyPost_ret (v := sp (redP (a*d-c*b) (b*d)) (redQ (a*d-c*b) (b*d)) (redP (a*d+c*b) (b*d)) (redQ (a*d+c*b) (b*d))) (by simp [results, Try.results159, go_sem, *]) rfl ⟨rfl, ?_⟩
  exact ((((G1.out).setCell (by simp <;> omega) _).setCell (by simp <;> omega) _).setCell (by simp <;> omega) _).setCell (by simp <;> omega) _
set_option maxRecDepth 20000 in
set_option maxHeartbeats 400000 in
theorem caround_b1 (a b c d : Int) (k4 k5 : Nat) (w : World) (X4 : Hid (w.heap[k4]? = some (.cells #[.int .i64 a, .int .i64 b] 30))) (X5 : Hid (w.heap[k5]? = some (.cells #[.int .i64 c, .int .i64 d] 30))) (h1 : okB a b = true) (h2 : okB c d = true) (k1 : okB (redP (a*d-c*b) (b*d)) (redQ (a*d-c*b) (b*d)) = false) :
    Calls Try.prog 159 #[.pointer (some ⟨k4, 0, none⟩), .pointer (some ⟨k5, 0, none⟩)] w fun e w' => (∃ x y, e = .panicked [{ v := .iface 212 (fr x y), recovered := false }]) ∧ Gr w w' := by
  have h1 := hid h1
  have h2 := hid h2
  have k1 := hid k1
  go_enter Try.func159, Try.ntmps159
  obtain ⟨_, _⟩ := cells2 X4.out
  have _ := fz X4.out
  have _ := ltb X4.out
  obtain ⟨_, _⟩ := cells2 X5.out
  have _ := fz X5.out
  have _ := ltb X5.out
  go_wp2_with fail
  refine wp_regP 2 [5, 6, 7] (by kernel_rfl) (by kernel_rfl) rfl ?_
  apply Exists.intro
  refine ⟨160, #[fr a b, fr c d], fun wb hb => ?_, ?_⟩
  · obtain ⟨y0, _, _⟩ := alloc1 (Gr.refl _)
    obtain ⟨_, _, _, _⟩ := hb.at4 y0
    clear y0
    obtain ⟨_, _⟩ := hb.at2 (((Gr.refl _).al _).keep X4.out)
    obtain ⟨_, _⟩ := hb.at2 (((Gr.refl _).al _).keep X5.out)
    simp only [headOps, List.contains, List.elem, List.length_cons, List.length_nil, Nat.zero_add, Nat.reduceAdd, Nat.reduceBEq, reduceIte, Bool.false_eq_true, dumOp]
    repeat (first | go_big_quiet_step (first | (fail)) | quiet_step (fail))
    exact wpQuiet_nil rfl
  refine ⟨fun w' => by kernel_rfl, fun w' hg' => (minus_no _ _ _ _ _ h1.out h2.out k1.out).mono fun e w2 ⟨⟨x, y, he⟩, hg2⟩ => ⟨_, he, fun a' ha' => ⟨ha', ⟨x, y, rfl⟩, (((Gr.refl _).al _).trans hg').trans hg2⟩⟩⟩
set_option maxRecDepth 20000 in
set_option maxHeartbeats 400000 in
theorem caround_b2 (a b c d : Int) (k4 k5 : Nat) (w : World) (X4 : Hid (w.heap[k4]? = some (.cells #[.int .i64 a, .int .i64 b] 30))) (X5 : Hid (w.heap[k5]? = some (.cells #[.int .i64 c, .int .i64 d] 30))) (h1 : okB a b = true) (h2 : okB c d = true) (k1 : okB (redP (a*d-c*b) (b*d)) (redQ (a*d-c*b) (b*d)) = true) (k2 : okB (redP (a*d+c*b) (b*d)) (redQ (a*d+c*b) (b*d)) = false) :
    Calls Try.prog 159 #[.pointer (some ⟨k4, 0, none⟩), .pointer (some ⟨k5, 0, none⟩)] w fun e w' => (∃ x y, e = .panicked [{ v := .iface 212 (fr x y), recovered := false }]) ∧ Gr w w' := by
  have h1 := hid h1
  have h2 := hid h2
  have k1 := hid k1
  have k2 := hid k2
  go_enter Try.func159, Try.ntmps159
  obtain ⟨_, _⟩ := cells2 X4.out
  have _ := fz X4.out
  have _ := ltb X4.out
  obtain ⟨_, _⟩ := cells2 X5.out
  have _ := fz X5.out
  have _ := ltb X5.out
  go_wp2_with fail
  refine wp_regP 5 [6, 7] (by kernel_rfl) (by kernel_rfl) rfl ?_
  apply Exists.intro
  refine ⟨129, #[fr a b, fr c d], fun wb hb => ?_, ?_⟩
  · obtain ⟨y0, _, _⟩ := alloc1 (Gr.refl _)
    obtain ⟨_, _, _, _⟩ := hb.at4 y0
    clear y0
    obtain ⟨_, _⟩ := hb.at2 (((Gr.refl _).al _).keep X4.out)
    obtain ⟨_, _⟩ := hb.at2 (((Gr.refl _).al _).keep X5.out)
    simp only [headOps, List.contains, List.elem, List.length_cons, List.length_nil, Nat.zero_add, Nat.reduceAdd, Nat.reduceBEq, reduceIte, Bool.false_eq_true, dumOp]
    repeat (first | go_big_quiet_step (first | (go_at_call 160; with_reducible exact Calls.of_gr (minus_yes a b c d _ h1.out h2.out k1.out))) | quiet_step (fail))
    exact wpQuiet_nil rfl
  refine ⟨fun w' => by kernel_rfl, fun w' hg' => (plus_no _ _ _ _ _ h1.out h2.out k2.out).mono fun e w2 ⟨⟨x, y, he⟩, hg2⟩ => ⟨_, he, fun a' ha' => ⟨ha', ⟨x, y, rfl⟩, (((Gr.refl _).al _).trans hg').trans hg2⟩⟩⟩
end Go.Proofs.Ytnbdafecgccojaa
