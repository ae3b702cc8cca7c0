/- WALKS: spans of sums and differences: the program's. -/
import Derived.Test.YtnbdafecgccojaaR
namespace Go.Proofs.Ytnbdafecgccojaa
open Go.RowKit Go.Sort

theorem plus_yes (a b c d : Int) (w : World) (h1 : okB a b = true) (h2 : okB c d = true) (hk : okB (redP (a*d+c*b) (b*d)) (redQ (a*d+c*b) (b*d)) = true) :
    Calls Try.prog 129 #[fr a b, fr c d] w fun e w' => e = .returned (fr (redP (a*d+c*b) (b*d)) (redQ (a*d+c*b) (b*d))) ∧ Gr w w' := by
  obtain ⟨b1, b2, b3, b4⟩ := okB_bd h1
  obtain ⟨d1, d2, d3, d4⟩ := okB_bd h2
  exact plus_ok a b c d w b1 b2 b3 b4 d1 d2 d3 d4 hk
theorem plus_no (a b c d : Int) (w : World) (h1 : okB a b = true) (h2 : okB c d = true) (hk : okB (redP (a*d+c*b) (b*d)) (redQ (a*d+c*b) (b*d)) = false) :
    Calls Try.prog 129 #[fr a b, fr c d] w fun e w' => (∃ x y, e = .panicked [{ v := .iface 212 (fr x y), recovered := false }]) ∧ Gr w w' := by
  obtain ⟨b1, b2, b3, b4⟩ := okB_bd h1
  obtain ⟨d1, d2, d3, d4⟩ := okB_bd h2
  exact plus_bad a b c d w b1 b2 b3 b4 d1 d2 d3 d4 hk
theorem minus_yes (a b c d : Int) (w : World) (h1 : okB a b = true) (h2 : okB c d = true) (hk : okB (redP (a*d-c*b) (b*d)) (redQ (a*d-c*b) (b*d)) = true) :
    Calls Try.prog 160 #[fr a b, fr c d] w fun e w' => e = .returned (fr (redP (a*d-c*b) (b*d)) (redQ (a*d-c*b) (b*d))) ∧ Gr w w' := by
  obtain ⟨b1, b2, b3, b4⟩ := okB_bd h1
  obtain ⟨d1, d2, d3, d4⟩ := okB_bd h2
  exact minus_ok a b c d w b1 b2 b3 b4 d1 d2 d3 d4 hk
theorem minus_no (a b c d : Int) (w : World) (h1 : okB a b = true) (h2 : okB c d = true) (hk : okB (redP (a*d-c*b) (b*d)) (redQ (a*d-c*b) (b*d)) = false) :
    Calls Try.prog 160 #[fr a b, fr c d] w fun e w' => (∃ x y, e = .panicked [{ v := .iface 212 (fr x y), recovered := false }]) ∧ Gr w w' := by
  obtain ⟨b1, b2, b3, b4⟩ := okB_bd h1
  obtain ⟨d1, d2, d3, d4⟩ := okB_bd h2
  exact minus_bad a b c d w b1 b2 b3 b4 d1 d2 d3 d4 hk
theorem times_yes (a b c d : Int) (w : World) (h1 : okB a b = true) (h2 : okB c d = true) (hk : okB (redP (a*c) (b*d)) (redQ (a*c) (b*d)) = true) :
    Calls Try.prog 130 #[fr a b, fr c d] w fun e w' => e = .returned (fr (redP (a*c) (b*d)) (redQ (a*c) (b*d))) ∧ Gr w w' := by
  obtain ⟨b1, b2, b3, b4⟩ := okB_bd h1
  obtain ⟨d1, d2, d3, d4⟩ := okB_bd h2
  exact times_ok a b c d w b1 b2 b3 b4 d1 d2 d3 d4 hk
theorem times_no (a b c d : Int) (w : World) (h1 : okB a b = true) (h2 : okB c d = true) (hk : okB (redP (a*c) (b*d)) (redQ (a*c) (b*d)) = false) :
    Calls Try.prog 130 #[fr a b, fr c d] w fun e w' => (∃ x y, e = .panicked [{ v := .iface 212 (fr x y), recovered := false }]) ∧ Gr w w' := by
  obtain ⟨b1, b2, b3, b4⟩ := okB_bd h1
  obtain ⟨d1, d2, d3, d4⟩ := okB_bd h2
  exact times_bad a b c d w b1 b2 b3 b4 d1 d2 d3 d4 hk
set_option maxRecDepth 20000 in
set_option maxHeartbeats 400000 in
theorem caround_ok (a b c d : Int) (k4 k5 : Nat) (w : World) (X4 : Hid (w.heap[k4]? = some (.cells #[.int .i64 a, .int .i64 b] 30))) (X5 : Hid (w.heap[k5]? = some (.cells #[.int .i64 c, .int .i64 d] 30))) (h1 : okB a b = true) (h2 : okB c d = true) (k1 : okB (redP (a*d-c*b) (b*d)) (redQ (a*d-c*b) (b*d)) = true) (k2 : okB (redP (a*d+c*b) (b*d)) (redQ (a*d+c*b) (b*d)) = true) :
    Calls Try.prog 159 #[.pointer (some ⟨k4, 0, none⟩), .pointer (some ⟨k5, 0, none⟩)] w fun e w' => e = .returned (sp (redP (a*d-c*b) (b*d)) (redQ (a*d-c*b) (b*d)) (redP (a*d+c*b) (b*d)) (redQ (a*d+c*b) (b*d))) ∧ Gr w w' := by
  have h1 := hid h1
  have h2 := hid h2
  have k1 := hid k1
  have k2 := hid k2
  go_enter Try.func159, Try.ntmps159
  obtain ⟨_, _⟩ := cells2 X4.out
  have _ := fz X4.out
  have _ := ltb X4.out
  obtain ⟨_, _⟩ := cells2 X5.out
  have _ := fz X5.out
  have _ := ltb X5.out
  go_wp2_with fail
  refine wp_reg0 7 (by kernel_rfl) (by kernel_rfl) ?_
  apply Exists.intro
  refine ⟨fun wb hb => ?_, ?_⟩
  · obtain ⟨y0, _, _⟩ := alloc1 (Gr.refl _)
    obtain ⟨_, _, _, _⟩ := hb.at4 y0
    clear y0
    obtain ⟨_, _⟩ := hb.at2 (((Gr.refl _).al _).keep X4.out)
    obtain ⟨_, _⟩ := hb.at2 (((Gr.refl _).al _).keep X5.out)
    simp only [headOps, List.contains, List.elem, reduceIte, Bool.false_eq_true]
    repeat (first | go_big_quiet_step (first | (go_at_call 160; with_reducible exact Calls.of_gr (minus_yes a b c d _ h1.out h2.out k1.out)) | (go_at_call 129; with_reducible exact Calls.of_gr (plus_yes a b c d _ h1.out h2.out k2.out))) | quiet_step (fail))
    exact wpQuiet_nil rfl
  intro w1 hg1
  obtain ⟨x1_0, hz1, g1⟩ := alloc1 hg1
  have x1_1 := g1.keep X4.out
  have x1_2 := g1.keep X5.out
  obtain ⟨_, _, _, _⟩ := cells4 x1_0
  have _ := fz x1_0
  have _ := ltb x1_0
  obtain ⟨_, _⟩ := cells2 x1_1
  have _ := fz x1_1
  have _ := ltb x1_1
  obtain ⟨_, _⟩ := cells2 x1_2
  have _ := fz x1_2
  have _ := ltb x1_2
  have X1_0 := hid x1_0; clear x1_0
  have X1_1 := hid x1_1; clear x1_1
  have X1_2 := hid x1_2; clear x1_2
  have G1 := hid (g1)
  clear hg1 g1
  go_wp2
  refine bodyPost_ret (v := sp (redP (a*d-c*b) (b*d)) (redQ (a*d-c*b) (b*d)) (redP (a*d+c*b) (b*d)) (redQ (a*d+c*b) (b*d))) (by simp [results, Try.results159, go_sem, *]) rfl ⟨rfl, ?_⟩
  exact ((((G1.out).setCell (by simp <;> omega) _).setCell (by simp <;> omega) _).setCell (by simp <;> omega) _).setCell (by simp <;> omega) _
set_option maxRecDepth 20000 in
set_option maxHeartbeats 400000 in
theorem caround_b1 (a b c d : Int) (k4 k5 : Nat) (w : World) (X4 : Hid (w.heap[k4]? = some (.cells #[.int .i64 a, .int .i64 b] 30))) (X5 : Hid (w.heap[k5]? = some (.cells #[.int .i64 c, .int .i64 d] 30))) (h1 : okB a b = true) (h2 : okB c d = true) (k1 : okB (redP (a*d-c*b) (b*d)) (redQ (a*d-c*b) (b*d)) = false) :
    Calls Try.prog 159 #[.pointer (some ⟨k4, 0, none⟩), .pointer (some ⟨k5, 0, none⟩)] w fun e w' => (∃ x y, e = .panicked [{ v := .iface 212 (fr x y), recovered := false }]) ∧ Gr w w' := by
  have h1 := hid h1
  have h2 := hid h2
  have k1 := hid k1
  go_enter Try.func159, Try.ntmps159
  obtain ⟨_, _⟩ := cells2 X4.out
  have _ := fz X4.out
  have _ := ltb X4.out
  obtain ⟨_, _⟩ := cells2 X5.out
  have _ := fz X5.out
  have _ := ltb X5.out
  go_wp2_with fail
  refine wp_regP 2 [5, 6, 7] (by kernel_rfl) (by kernel_rfl) rfl ?_
  apply Exists.intro
  refine ⟨160, #[fr a b, fr c d], fun wb hb => ?_, ?_⟩
  · obtain ⟨y0, _, _⟩ := alloc1 (Gr.refl _)
    obtain ⟨_, _, _, _⟩ := hb.at4 y0
    clear y0
    obtain ⟨_, _⟩ := hb.at2 (((Gr.refl _).al _).keep X4.out)
    obtain ⟨_, _⟩ := hb.at2 (((Gr.refl _).al _).keep X5.out)
    simp only [headOps, List.contains, List.elem, List.length_cons, List.length_nil, Nat.zero_add, Nat.reduceAdd, Nat.reduceBEq, reduceIte, Bool.false_eq_true, dumOp]
    repeat (first | go_big_quiet_step (first | (fail)) | quiet_step (fail))
    exact wpQuiet_nil rfl
  refine ⟨fun w' => by kernel_rfl, fun w' hg' => (minus_no _ _ _ _ _ h1.out h2.out k1.out).mono fun e w2 ⟨⟨x, y, he⟩, hg2⟩ => ⟨_, he, fun a' ha' => ⟨ha', ⟨x, y, rfl⟩, (((Gr.refl _).al _).trans hg').trans hg2⟩⟩⟩
set_option maxRecDepth 20000 in
set_option maxHeartbeats 400000 in
theorem caround_b2 (a b c d : Int) (k4 k5 : Nat) (w : World) (X4 : Hid (w.heap[k4]? = some (.cells #[.int .i64 a, .int .i64 b] 30))) (X5 : Hid (w.heap[k5]? = some (.cells #[.int .i64 c, .int .i64 d] 30))) (h1 : okB a b = true) (h2 : okB c d = true) (k1 : okB (redP (a*d-c*b) (b*d)) (redQ (a*d-c*b) (b*d)) = true) (k2 : okB (redP (a*d+c*b) (b*d)) (redQ (a*d+c*b) (b*d)) = false) :
    Calls Try.prog 159 #[.pointer (some ⟨k4, 0, none⟩), .pointer (some ⟨k5, 0, none⟩)] w fun e w' => (∃ x y, e = .panicked [{ v := .iface 212 (fr x y), recovered := false }]) ∧ Gr w w' := by
  have h1 := hid h1
  have h2 := hid h2
  have k1 := hid k1
  have k2 := hid k2
  go_enter Try.func159, Try.ntmps159
  obtain ⟨_, _⟩ := cells2 X4.out
  have _ := fz X4.out
  have _ := ltb X4.out
  obtain ⟨_, _⟩ := cells2 X5.out
  have _ := fz X5.out
  have _ := ltb X5.out
  go_wp2_with fail
  refine wp_regP 5 [6, 7] (by kernel_rfl) (by kernel_rfl) rfl ?_
  apply Exists.intro
  refine ⟨129, #[fr a b, fr c d], fun wb hb => ?_, ?_⟩
  · obtain ⟨y0, _, _⟩ := alloc1 (Gr.refl _)
    obtain ⟨_, _, _, _⟩ := hb.at4 y0
    clear y0
    obtain ⟨_, _⟩ := hb.at2 (((Gr.refl _).al _).keep X4.out)
    obtain ⟨_, _⟩ := hb.at2 (((Gr.refl _).al _).keep X5.out)
    simp only [headOps, List.contains, List.elem, List.length_cons, List.length_nil, Nat.zero_add, Nat.reduceAdd, Nat.reduceBEq, reduceIte, Bool.false_eq_true, dumOp]
    repeat (first | go_big_quiet_step (first | (go_at_call 160; with_reducible exact Calls.of_gr (minus_yes a b c d _ h1.out h2.out k1.out))) | quiet_step (fail))
    exact wpQuiet_nil rfl
  refine ⟨fun w' => by kernel_rfl, fun w' hg' => (plus_no _ _ _ _ _ h1.out h2.out k2.out).mono fun e w2 ⟨⟨x, y, he⟩, hg2⟩ => ⟨_, he, fun a' ha' => ⟨ha', ⟨x, y, rfl⟩, (((Gr.refl _).al _).trans hg').trans hg2⟩⟩⟩
end Go.Proofs.Ytnbdafecgccojaa
namespace Go.Proofs.Ytnbdafecgccojaa
open Go.RowKit Go.Sort

theorem iok_t (p q : Int) (w : World) (h : okB p q = true) : Calls Try.prog 74 #[fr p q] w fun e w' => e = .returned (.bool true) ∧ Gr w w' :=
  (iok_any p q w).mono fun e w' ⟨he, hg⟩ => ⟨by rw [he, h], hg⟩
theorem iok_f (p q : Int) (w : World) (h : okB p q = false) : Calls Try.prog 74 #[fr p q] w fun e w' => e = .returned (.bool false) ∧ Gr w w' :=
  (iok_any p q w).mono fun e w' ⟨he, hg⟩ => ⟨by rw [he, h], hg⟩
theorem iSpan_t (a b c d : Int) (w : World) (h : spB a b c d = true) : Calls Try.prog 255 #[sp a b c d] w fun e w' => e = .returned (.bool true) ∧ Gr w w' :=
  (iValidSpan a b c d w).mono fun e w' ⟨he, hg⟩ => ⟨by rw [he, h], hg⟩
theorem iSpan_f (a b c d : Int) (w : World) (h : spB a b c d = false) : Calls Try.prog 255 #[sp a b c d] w fun e w' => e = .returned (.bool false) ∧ Gr w w' :=
  (iValidSpan a b c d w).mono fun e w' ⟨he, hg⟩ => ⟨by rw [he, h], hg⟩
theorem spB_ok {a b c d : Int} (h : spB a b c d = true) : okB a b = true ∧ okB c d = true ∧ cmpI a b c d ≤ 0 := by
  unfold spB at h; simpa [and_assoc] using h
/-- What is told of a span whose ends are calculated. -/
theorem told_bV (f : Nat) (cap : Array Value) (n1 d1 n2 d2 : Int) (w : World) (hen : ∀ w, (callFunc f cap).run Try.prog w = .ok (.enter f cap) w)
    (h0 : okB (redP n1 d1) (redQ n1 d1) = true → okB (redP n2 d2) (redQ n2 d2) = true → ∀ w', Gr w w' → Calls Try.prog f cap w' fun e w'' => e = .returned (sp (redP n1 d1) (redQ n1 d1) (redP n2 d2) (redQ n2 d2)) ∧ Gr w' w'')
    (h1 : okB (redP n1 d1) (redQ n1 d1) = false → ∀ w', Gr w w' → Calls Try.prog f cap w' fun e w'' => (∃ x y, e = .panicked [{ v := .iface 212 (fr x y), recovered := false }]) ∧ Gr w' w'')
    (h2 : okB (redP n1 d1) (redQ n1 d1) = true → okB (redP n2 d2) (redQ n2 d2) = false → ∀ w', Gr w w' → Calls Try.prog f cap w' fun e w'' => (∃ x y, e = .panicked [{ v := .iface 212 (fr x y), recovered := false }]) ∧ Gr w' w'') :
    Calls Try.prog 158 #[.func (.func f) #[] cap] w fun e w' => e = .returned (bV n1 d1 n2 d2) ∧ Gr w w' := by
  unfold bV
  cases k1 : okB (redP n1 d1) (redQ n1 d1) with
  | false => exact told_great_S f cap w hen (h1 k1)
  | true =>
    cases k2 : okB (redP n2 d2) (redQ n2 d2) with
    | false => exact told_great_S f cap w hen (h2 k1 k2)
    | true => exact told_ok_S f cap _ _ _ _ w hen (h0 k1 k2)
set_option maxRecDepth 20000 in
set_option maxHeartbeats 400000 in
theorem iAround_n1 (a b c d : Int) (w : World) (h1 : okB a b = false) :
    Calls Try.prog 78 #[fr a b, fr c d] w fun e w' => e = .returned (.tuple #[sp 0 0 0 0, .int .i64 1]) ∧ Gr w w' := by
  have h1 := hid h1
  go_enter Try.func78, Try.ntmps78
  go_wp2_with fail
  refine (iok_f _ _ _ h1.out).mono ?_
  rintro e w1 ⟨rfl, hg1⟩
  obtain ⟨x1_0, x1_1, x1_2, hz1, g1⟩ := alloc3 hg1
  obtain ⟨_, _⟩ := cells2 x1_0
  have _ := fz x1_0
  have _ := ltb x1_0
  obtain ⟨_, _⟩ := cells2 x1_1
  have _ := fz x1_1
  have _ := ltb x1_1
  obtain ⟨_, _, _, _⟩ := cells4 x1_2
  have _ := fz x1_2
  have _ := ltb x1_2
  have X1_0 := hid x1_0; clear x1_0
  have X1_1 := hid x1_1; clear x1_1
  have X1_2 := hid x1_2; clear x1_2
  have G1 := hid (g1)
  clear hg1 g1
  go_wp2
  refine bodyPost_ret (v := .tuple #[sp 0 0 0 0, .int .i64 1]) (by simp [results, Try.results78, go_sem, *]) rfl ⟨rfl, ?_⟩
  exact ((((G1.out).setCell (by simp <;> omega) _).setCell (by simp <;> omega) _).setCell (by simp <;> omega) _).setCell (by simp <;> omega) _
set_option maxRecDepth 20000 in
set_option maxHeartbeats 400000 in
theorem iAround_n2 (a b c d : Int) (w : World) (h1 : okB a b = true) (h2 : okB c d = false) :
    Calls Try.prog 78 #[fr a b, fr c d] w fun e w' => e = .returned (.tuple #[sp 0 0 0 0, .int .i64 1]) ∧ Gr w w' := by
  have h1 := hid h1
  have h2 := hid h2
  go_enter Try.func78, Try.ntmps78
  go_wp2_with fail
  refine (iok_t _ _ _ h1.out).mono ?_
  rintro e w1 ⟨rfl, hg1⟩
  obtain ⟨x1_0, x1_1, x1_2, hz1, g1⟩ := alloc3 hg1
  obtain ⟨_, _⟩ := cells2 x1_0
  have _ := fz x1_0
  have _ := ltb x1_0
  obtain ⟨_, _⟩ := cells2 x1_1
  have _ := fz x1_1
  have _ := ltb x1_1
  obtain ⟨_, _, _, _⟩ := cells4 x1_2
  have _ := fz x1_2
  have _ := ltb x1_2
  have X1_0 := hid x1_0; clear x1_0
  have X1_1 := hid x1_1; clear x1_1
  have X1_2 := hid x1_2; clear x1_2
  have G1 := hid (g1)
  clear hg1 g1
  go_wp2_with fail
  refine (iok_f _ _ _ h2.out).mono ?_
  rintro e w2 ⟨rfl, hg2⟩
  have x2_1 := hg2.keep X1_0.out
  have x2_2 := hg2.keep X1_1.out
  have x2_3 := hg2.keep X1_2.out
  obtain ⟨_, _⟩ := cells2 x2_1
  have _ := fz x2_1
  have _ := ltb x2_1
  obtain ⟨_, _⟩ := cells2 x2_2
  have _ := fz x2_2
  have _ := ltb x2_2
  obtain ⟨_, _, _, _⟩ := cells4 x2_3
  have _ := fz x2_3
  have _ := ltb x2_3
  have X2_1 := hid x2_1; clear x2_1
  have X2_2 := hid x2_2; clear x2_2
  have X2_3 := hid x2_3; clear x2_3
  have G2 := hid (G1.out.trans hg2)
  clear hg2
  go_wp2
  refine bodyPost_ret (v := .tuple #[sp 0 0 0 0, .int .i64 1]) (by simp [results, Try.results78, go_sem, *]) rfl ⟨rfl, ?_⟩
  exact ((((G2.out).setCell (by simp <;> omega) _).setCell (by simp <;> omega) _).setCell (by simp <;> omega) _).setCell (by simp <;> omega) _
set_option maxRecDepth 20000 in
set_option maxHeartbeats 400000 in
theorem iAround_neg (a b c d : Int) (w : World) (h1 : okB a b = true) (h2 : okB c d = true) (hc : c < 0) :
    Calls Try.prog 78 #[fr a b, fr c d] w fun e w' => e = .returned (.tuple #[sp 0 0 0 0, .int .i64 2]) ∧ Gr w w' := by
  have h1 := hid h1
  have h2 := hid h2
  go_enter Try.func78, Try.ntmps78
  go_wp2_with fail
  refine (iok_t _ _ _ h1.out).mono ?_
  rintro e w1 ⟨rfl, hg1⟩
  obtain ⟨x1_0, x1_1, x1_2, hz1, g1⟩ := alloc3 hg1
  obtain ⟨_, _⟩ := cells2 x1_0
  have _ := fz x1_0
  have _ := ltb x1_0
  obtain ⟨_, _⟩ := cells2 x1_1
  have _ := fz x1_1
  have _ := ltb x1_1
  obtain ⟨_, _, _, _⟩ := cells4 x1_2
  have _ := fz x1_2
  have _ := ltb x1_2
  have X1_0 := hid x1_0; clear x1_0
  have X1_1 := hid x1_1; clear x1_1
  have X1_2 := hid x1_2; clear x1_2
  have G1 := hid (g1)
  clear hg1 g1
  go_wp2_with fail
  refine (iok_t _ _ _ h2.out).mono ?_
  rintro e w2 ⟨rfl, hg2⟩
  have x2_1 := hg2.keep X1_0.out
  have x2_2 := hg2.keep X1_1.out
  have x2_3 := hg2.keep X1_2.out
  obtain ⟨_, _⟩ := cells2 x2_1
  have _ := fz x2_1
  have _ := ltb x2_1
  obtain ⟨_, _⟩ := cells2 x2_2
  have _ := fz x2_2
  have _ := ltb x2_2
  obtain ⟨_, _, _, _⟩ := cells4 x2_3
  have _ := fz x2_3
  have _ := ltb x2_3
  have X2_1 := hid x2_1; clear x2_1
  have X2_2 := hid x2_2; clear x2_2
  have X2_3 := hid x2_3; clear x2_3
  have G2 := hid (G1.out.trans hg2)
  clear hg2
  go_wp2
  refine bodyPost_ret (v := .tuple #[sp 0 0 0 0, .int .i64 2]) (by simp [results, Try.results78, go_sem, *]) rfl ⟨rfl, ?_⟩
  exact ((((G2.out).setCell (by simp <;> omega) _).setCell (by simp <;> omega) _).setCell (by simp <;> omega) _).setCell (by simp <;> omega) _
set_option maxRecDepth 20000 in
set_option maxHeartbeats 400000 in
theorem iAround_yes (a b c d : Int) (w : World) (h1 : okB a b = true) (h2 : okB c d = true) (hc : ¬ c < 0) :
    Calls Try.prog 78 #[fr a b, fr c d] w fun e w' => e = .returned (bV (a*d-c*b) (b*d) (a*d+c*b) (b*d)) ∧ Gr w w' := by
  have h1 := hid h1
  have h2 := hid h2
  obtain ⟨p, q, p', q', c', hf⟩ := bV_form (a*d-c*b) (b*d) (a*d+c*b) (b*d)
  rw [hf]
  have F := hid hf; clear hf
  go_enter Try.func78, Try.ntmps78
  go_wp2_with fail
  refine (iok_t _ _ _ h1.out).mono ?_
  rintro e w1 ⟨rfl, hg1⟩
  obtain ⟨x1_0, x1_1, x1_2, hz1, g1⟩ := alloc3 hg1
  obtain ⟨_, _⟩ := cells2 x1_0
  have _ := fz x1_0
  have _ := ltb x1_0
  obtain ⟨_, _⟩ := cells2 x1_1
  have _ := fz x1_1
  have _ := ltb x1_1
  obtain ⟨_, _, _, _⟩ := cells4 x1_2
  have _ := fz x1_2
  have _ := ltb x1_2
  have X1_0 := hid x1_0; clear x1_0
  have X1_1 := hid x1_1; clear x1_1
  have X1_2 := hid x1_2; clear x1_2
  have G1 := hid (g1)
  clear hg1 g1
  go_wp2_with fail
  refine (iok_t _ _ _ h2.out).mono ?_
  rintro e w2 ⟨rfl, hg2⟩
  have x2_1 := hg2.keep X1_0.out
  have x2_2 := hg2.keep X1_1.out
  have x2_3 := hg2.keep X1_2.out
  obtain ⟨_, _⟩ := cells2 x2_1
  have _ := fz x2_1
  have _ := ltb x2_1
  obtain ⟨_, _⟩ := cells2 x2_2
  have _ := fz x2_2
  have _ := ltb x2_2
  obtain ⟨_, _, _, _⟩ := cells4 x2_3
  have _ := fz x2_3
  have _ := ltb x2_3
  have X2_1 := hid x2_1; clear x2_1
  have X2_2 := hid x2_2; clear x2_2
  have X2_3 := hid x2_3; clear x2_3
  have G2 := hid (G1.out.trans hg2)
  clear hg2
  go_wp2_with fail
  refine (told_bV 159 _ (a*d-c*b) (b*d) (a*d+c*b) (b*d) _ (fun _ => by kernel_rfl) (fun k1 k2 w' hg' => caround_ok a b c d _ _ w' (hid (hg'.keep X2_1.out)) (hid (hg'.keep X2_2.out)) h1.out h2.out k1 k2) (fun k1 w' hg' => caround_b1 a b c d _ _ w' (hid (hg'.keep X2_1.out)) (hid (hg'.keep X2_2.out)) h1.out h2.out k1) (fun k1 k2 w' hg' => caround_b2 a b c d _ _ w' (hid (hg'.keep X2_1.out)) (hid (hg'.keep X2_2.out)) h1.out h2.out k1 k2)).mono ?_
  rintro e w3 ⟨rfl, hg3⟩
  have x3_1 := hg3.keep X2_1.out
  have x3_2 := hg3.keep X2_2.out
  have x3_3 := hg3.keep X2_3.out
  obtain ⟨_, _⟩ := cells2 x3_1
  have _ := fz x3_1
  have _ := ltb x3_1
  obtain ⟨_, _⟩ := cells2 x3_2
  have _ := fz x3_2
  have _ := ltb x3_2
  obtain ⟨_, _, _, _⟩ := cells4 x3_3
  have _ := fz x3_3
  have _ := ltb x3_3
  have X3_1 := hid x3_1; clear x3_1
  have X3_2 := hid x3_2; clear x3_2
  have X3_3 := hid x3_3; clear x3_3
  have G3 := hid (G2.out.trans hg3)
  clear hg3
  rw [F.out]
  go_wp2
  refine bodyPost_ret (v := .tuple #[sp p q p' q', .int .i64 c']) (by simp [results, Try.results78, go_sem, *]) rfl ⟨rfl, ?_⟩
  exact ((((G3.out).setCell (by simp <;> omega) _).setCell (by simp <;> omega) _).setCell (by simp <;> omega) _).setCell (by simp <;> omega) _
end Go.Proofs.Ytnbdafecgccojaa
namespace Go.Proofs.Ytnbdafecgccojaa
open Go.RowKit Go.Sort

theorem okB_neg {p q : Int} (h : okB p q = true) : okB (-p) q = true := by
  rw [okB_iff] at *
  unfold Ok at *
  have e : Int.gcd (-p) q = Int.gcd p q := by simp [Int.gcd]
  omega
end Go.Proofs.Ytnbdafecgccojaa
namespace Go.Proofs.Ytnbdafecgccojaa
open Go.RowKit Go.Sort

theorem sok_t (p q : Int) (w : World) (h : okB p q = true) : Calls Try.prog 79 #[fr p q] w fun e w' => e = .returned (.bool true) ∧ Gr w w' :=
  (sok_any p q w).mono fun e w' ⟨he, hg⟩ => ⟨by rw [he, h], hg⟩
theorem sok_f (p q : Int) (w : World) (h : okB p q = false) : Calls Try.prog 79 #[fr p q] w fun e w' => e = .returned (.bool false) ∧ Gr w w' :=
  (sok_any p q w).mono fun e w' ⟨he, hg⟩ => ⟨by rw [he, h], hg⟩
/-- What is told of a fraction that is calculated. -/
theorem told_rV (f : Nat) (cap : Array Value) (n d : Int) (w : World) (hen : ∀ w, (callFunc f cap).run Try.prog w = .ok (.enter f cap) w)
    (h0 : okB (redP n d) (redQ n d) = true → ∀ w', Gr w w' → Calls Try.prog f cap w' fun e w'' => e = .returned (fr (redP n d) (redQ n d)) ∧ Gr w' w'')
    (h1 : okB (redP n d) (redQ n d) = false → ∀ w', Gr w w' → Calls Try.prog f cap w' fun e w'' => (∃ x y, e = .panicked [{ v := .iface 212 (fr x y), recovered := false }]) ∧ Gr w' w'') :
    Calls Try.prog 75 #[.func (.func f) #[] cap] w fun e w' => e = .returned (.tuple #[fr (rP n d) (rQ n d), .int .i64 (rC n d)]) ∧ Gr w w' := by
  unfold rP rQ rC
  cases k1 : okB (redP n d) (redQ n d) with
  | false => exact told_great_F f cap w hen (h1 k1)
  | true => exact told_ok_F f cap _ _ w hen (h0 k1)
/-! InSpan -/
def liesB (a b c d p q : Int) : Bool := decide (cmpI a b p q ≤ 0) && decide (cmpI p q c d ≤ 0)
end Go.Proofs.Ytnbdafecgccojaa
