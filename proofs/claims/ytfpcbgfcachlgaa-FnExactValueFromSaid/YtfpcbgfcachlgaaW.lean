/- WALKS: the greater and the lesser one of two fractions; MeetSpans, of the program and of the reference. -/
import Derived.Test.YtfpcbgfcachlgaaN
import Derived.Test.YtfpcbgfcachlgaaB0
namespace Go.Proofs.Ytfpcbgfcachlgaa
open Go.RowKit Go.Sort

/-- The greater, the lesser one of a / b and c / d. -/
def mxP (a b c d : Int) : Int := if 0 < cmpI c d a b then c else a
def mxQ (a b c d : Int) : Int := if 0 < cmpI c d a b then d else b
def mnP (a b c d : Int) : Int := if cmpI c d a b < 0 then c else a
def mnQ (a b c d : Int) : Int := if cmpI c d a b < 0 then d else b
theorem ok_mx {a b c d : Int} (h1 : okB a b = true) (h2 : okB c d = true) : okB (mxP a b c d) (mxQ a b c d) = true := by
  unfold mxP mxQ; split <;> assumption
theorem ok_mn {a b c d : Int} (h1 : okB a b = true) (h2 : okB c d = true) : okB (mnP a b c d) (mnQ a b c d) = true := by
  unfold mnP mnQ; split <;> assumption
theorem cmp_bd {a b c d : Int} (h1 : okB a b = true) (h2 : okB c d = true) : (-1000000000000000000 ≤ a * d ∧ a * d ≤ 1000000000000000000) ∧ (-1000000000000000000 ≤ c * b ∧ c * b ≤ 1000000000000000000) := by
  obtain ⟨b1, b2, b3, b4⟩ := okB_bd h1
  obtain ⟨d1, d2, d3, d4⟩ := okB_bd h2
  exact ⟨mul_bd b3 b4 (by omega) d2, mul_bd d3 d4 (by omega) b2⟩
theorem scmp_ok (a b c d : Int) (w : World) (h1 : okB a b = true) (h2 : okB c d = true) :
    Calls Try.prog 171 #[fr a b, fr c d] w fun e w' => e = .returned (.int .i64 (cmpI a b c d)) ∧ Gr w w' :=
  scmp a b c d w (cmp_bd h1 h2).1.1 (cmp_bd h1 h2).1.2 (cmp_bd h1 h2).2.1 (cmp_bd h1 h2).2.2
set_option maxRecDepth 20000 in
set_option maxHeartbeats 400000 in
theorem igreatest_y (a b c d : Int) (w : World) (h1 : okB a b = true) (h2 : okB c d = true) (hd : decide (0 < cmpI c d a b) = true) :
    Calls Try.prog 221 #[fr a b, fr c d] w fun e w' => e = .returned (fr c d) ∧ Gr w w' := by
  have h1 := hid h1; have h2 := hid h2
  go_enter Try.func221, Try.ntmps221
  go_wp2_with fail
  refine (iord _ _ _ _ _ h2.out h1.out).mono ?_
  rintro e w1 ⟨rfl, hg1⟩
  obtain ⟨x1_0, x1_1, x1_2, hz1, g1⟩ := alloc3 hg1
  obtain ⟨_, _⟩ := cells2 x1_0
  have _ := fz x1_0
  have _ := ltb x1_0
  obtain ⟨_, _⟩ := cells2 x1_1
  have _ := fz x1_1
  have _ := ltb x1_1
  obtain ⟨_, _⟩ := cells2 x1_2
  have _ := fz x1_2
  have _ := ltb x1_2
  have X1_0 := hid x1_0; clear x1_0
  have X1_1 := hid x1_1; clear x1_1
  have X1_2 := hid x1_2; clear x1_2
  have G1 := hid (g1)
  clear hg1 g1
  go_wp2
  refine bodyPost_ret (v := fr c d) (by simp [results, Try.results221, go_sem, *]) rfl ⟨rfl, ?_⟩
  exact ((G1.out).setCell (by simp <;> omega) _).setCell (by simp <;> omega) _
set_option maxRecDepth 20000 in
set_option maxHeartbeats 400000 in
theorem igreatest_n (a b c d : Int) (w : World) (h1 : okB a b = true) (h2 : okB c d = true) (hd : decide (0 < cmpI c d a b) = false) :
    Calls Try.prog 221 #[fr a b, fr c d] w fun e w' => e = .returned (fr a b) ∧ Gr w w' := by
  have h1 := hid h1; have h2 := hid h2
  go_enter Try.func221, Try.ntmps221
  go_wp2_with fail
  refine (iord _ _ _ _ _ h2.out h1.out).mono ?_
  rintro e w1 ⟨rfl, hg1⟩
  obtain ⟨x1_0, x1_1, x1_2, hz1, g1⟩ := alloc3 hg1
  obtain ⟨_, _⟩ := cells2 x1_0
  have _ := fz x1_0
  have _ := ltb x1_0
  obtain ⟨_, _⟩ := cells2 x1_1
  have _ := fz x1_1
  have _ := ltb x1_1
  obtain ⟨_, _⟩ := cells2 x1_2
  have _ := fz x1_2
  have _ := ltb x1_2
  have X1_0 := hid x1_0; clear x1_0
  have X1_1 := hid x1_1; clear x1_1
  have X1_2 := hid x1_2; clear x1_2
  have G1 := hid (g1)
  clear hg1 g1
  go_wp2
  refine bodyPost_ret (v := fr a b) (by simp [results, Try.results221, go_sem, *]) rfl ⟨rfl, ?_⟩
  exact ((G1.out).setCell (by simp <;> omega) _).setCell (by simp <;> omega) _
theorem igreatest (a b c d : Int) (w : World) (h1 : okB a b = true) (h2 : okB c d = true) :
    Calls Try.prog 221 #[fr a b, fr c d] w fun e w' => e = .returned (fr (mxP a b c d) (mxQ a b c d)) ∧ Gr w w' := by
  unfold mxP mxQ
  by_cases h : 0 < cmpI c d a b
  · simp only [if_pos h]; exact igreatest_y a b c d w h1 h2 (by simpa using h)
  · simp only [if_neg h]; exact igreatest_n a b c d w h1 h2 (by simpa using h)
set_option maxRecDepth 20000 in
set_option maxHeartbeats 400000 in
theorem ileast_y (a b c d : Int) (w : World) (h1 : okB a b = true) (h2 : okB c d = true) (hd : decide (cmpI c d a b < 0) = true) :
    Calls Try.prog 222 #[fr a b, fr c d] w fun e w' => e = .returned (fr c d) ∧ Gr w w' := by
  have h1 := hid h1; have h2 := hid h2
  go_enter Try.func222, Try.ntmps222
  go_wp2_with fail
  refine (iord _ _ _ _ _ h2.out h1.out).mono ?_
  rintro e w1 ⟨rfl, hg1⟩
  obtain ⟨x1_0, x1_1, x1_2, hz1, g1⟩ := alloc3 hg1
  obtain ⟨_, _⟩ := cells2 x1_0
  have _ := fz x1_0
  have _ := ltb x1_0
  obtain ⟨_, _⟩ := cells2 x1_1
  have _ := fz x1_1
  have _ := ltb x1_1
  obtain ⟨_, _⟩ := cells2 x1_2
  have _ := fz x1_2
  have _ := ltb x1_2
  have X1_0 := hid x1_0; clear x1_0
  have X1_1 := hid x1_1; clear x1_1
  have X1_2 := hid x1_2; clear x1_2
  have G1 := hid (g1)
  clear hg1 g1
  go_wp2
  refine bodyPost_ret (v := fr c d) (by simp [results, Try.results222, go_sem, *]) rfl ⟨rfl, ?_⟩
  exact ((G1.out).setCell (by simp <;> omega) _).setCell (by simp <;> omega) _
set_option maxRecDepth 20000 in
set_option maxHeartbeats 400000 in
theorem ileast_n (a b c d : Int) (w : World) (h1 : okB a b = true) (h2 : okB c d = true) (hd : decide (cmpI c d a b < 0) = false) :
    Calls Try.prog 222 #[fr a b, fr c d] w fun e w' => e = .returned (fr a b) ∧ Gr w w' := by
  have h1 := hid h1; have h2 := hid h2
  go_enter Try.func222, Try.ntmps222
  go_wp2_with fail
  refine (iord _ _ _ _ _ h2.out h1.out).mono ?_
  rintro e w1 ⟨rfl, hg1⟩
  obtain ⟨x1_0, x1_1, x1_2, hz1, g1⟩ := alloc3 hg1
  obtain ⟨_, _⟩ := cells2 x1_0
  have _ := fz x1_0
  have _ := ltb x1_0
  obtain ⟨_, _⟩ := cells2 x1_1
  have _ := fz x1_1
  have _ := ltb x1_1
  obtain ⟨_, _⟩ := cells2 x1_2
  have _ := fz x1_2
  have _ := ltb x1_2
  have X1_0 := hid x1_0; clear x1_0
  have X1_1 := hid x1_1; clear x1_1
  have X1_2 := hid x1_2; clear x1_2
  have G1 := hid (g1)
  clear hg1 g1
  go_wp2
  refine bodyPost_ret (v := fr a b) (by simp [results, Try.results222, go_sem, *]) rfl ⟨rfl, ?_⟩
  exact ((G1.out).setCell (by simp <;> omega) _).setCell (by simp <;> omega) _
theorem ileast (a b c d : Int) (w : World) (h1 : okB a b = true) (h2 : okB c d = true) :
    Calls Try.prog 222 #[fr a b, fr c d] w fun e w' => e = .returned (fr (mnP a b c d) (mnQ a b c d)) ∧ Gr w w' := by
  unfold mnP mnQ
  by_cases h : cmpI c d a b < 0
  · simp only [if_pos h]; exact ileast_y a b c d w h1 h2 (by simpa using h)
  · simp only [if_neg h]; exact ileast_n a b c d w h1 h2 (by simpa using h)
set_option maxRecDepth 20000 in
set_option maxHeartbeats 400000 in
theorem smore_y (a b c d : Int) (w : World) (h1 : okB a b = true) (h2 : okB c d = true) (hd : decide (0 < cmpI c d a b) = true) :
    Calls Try.prog 169 #[fr a b, fr c d] w fun e w' => e = .returned (fr c d) ∧ Gr w w' := by
  have h1 := hid h1; have h2 := hid h2
  go_enter Try.func169, Try.ntmps169
  go_wp2_with fail
  refine (scmp_ok _ _ _ _ _ h2.out h1.out).mono ?_
  rintro e w1 ⟨rfl, hg1⟩
  obtain ⟨x1_0, x1_1, x1_2, hz1, g1⟩ := alloc3 hg1
  obtain ⟨_, _⟩ := cells2 x1_0
  have _ := fz x1_0
  have _ := ltb x1_0
  obtain ⟨_, _⟩ := cells2 x1_1
  have _ := fz x1_1
  have _ := ltb x1_1
  obtain ⟨_, _⟩ := cells2 x1_2
  have _ := fz x1_2
  have _ := ltb x1_2
  have X1_0 := hid x1_0; clear x1_0
  have X1_1 := hid x1_1; clear x1_1
  have X1_2 := hid x1_2; clear x1_2
  have G1 := hid (g1)
  clear hg1 g1
  go_wp2
  refine bodyPost_ret (v := fr c d) (by simp [results, Try.results169, go_sem, *]) rfl ⟨rfl, ?_⟩
  exact ((G1.out).setCell (by simp <;> omega) _).setCell (by simp <;> omega) _
set_option maxRecDepth 20000 in
set_option maxHeartbeats 400000 in
theorem smore_n (a b c d : Int) (w : World) (h1 : okB a b = true) (h2 : okB c d = true) (hd : decide (0 < cmpI c d a b) = false) :
    Calls Try.prog 169 #[fr a b, fr c d] w fun e w' => e = .returned (fr a b) ∧ Gr w w' := by
  have h1 := hid h1; have h2 := hid h2
  go_enter Try.func169, Try.ntmps169
  go_wp2_with fail
  refine (scmp_ok _ _ _ _ _ h2.out h1.out).mono ?_
  rintro e w1 ⟨rfl, hg1⟩
  obtain ⟨x1_0, x1_1, x1_2, hz1, g1⟩ := alloc3 hg1
  obtain ⟨_, _⟩ := cells2 x1_0
  have _ := fz x1_0
  have _ := ltb x1_0
  obtain ⟨_, _⟩ := cells2 x1_1
  have _ := fz x1_1
  have _ := ltb x1_1
  obtain ⟨_, _⟩ := cells2 x1_2
  have _ := fz x1_2
  have _ := ltb x1_2
  have X1_0 := hid x1_0; clear x1_0
  have X1_1 := hid x1_1; clear x1_1
  have X1_2 := hid x1_2; clear x1_2
  have G1 := hid (g1)
  clear hg1 g1
  go_wp2
  refine bodyPost_ret (v := fr a b) (by simp [results, Try.results169, go_sem, *]) rfl ⟨rfl, ?_⟩
  exact ((G1.out).setCell (by simp <;> omega) _).setCell (by simp <;> omega) _
theorem smore (a b c d : Int) (w : World) (h1 : okB a b = true) (h2 : okB c d = true) :
    Calls Try.prog 169 #[fr a b, fr c d] w fun e w' => e = .returned (fr (mxP a b c d) (mxQ a b c d)) ∧ Gr w w' := by
  unfold mxP mxQ
  by_cases h : 0 < cmpI c d a b
  · simp only [if_pos h]; exact smore_y a b c d w h1 h2 (by simpa using h)
  · simp only [if_neg h]; exact smore_n a b c d w h1 h2 (by simpa using h)
set_option maxRecDepth 20000 in
set_option maxHeartbeats 400000 in
theorem sless_y (a b c d : Int) (w : World) (h1 : okB a b = true) (h2 : okB c d = true) (hd : decide (cmpI c d a b < 0) = true) :
    Calls Try.prog 170 #[fr a b, fr c d] w fun e w' => e = .returned (fr c d) ∧ Gr w w' := by
  have h1 := hid h1; have h2 := hid h2
  go_enter Try.func170, Try.ntmps170
  go_wp2_with fail
  refine (scmp_ok _ _ _ _ _ h2.out h1.out).mono ?_
  rintro e w1 ⟨rfl, hg1⟩
  obtain ⟨x1_0, x1_1, x1_2, hz1, g1⟩ := alloc3 hg1
  obtain ⟨_, _⟩ := cells2 x1_0
  have _ := fz x1_0
  have _ := ltb x1_0
  obtain ⟨_, _⟩ := cells2 x1_1
  have _ := fz x1_1
  have _ := ltb x1_1
  obtain ⟨_, _⟩ := cells2 x1_2
  have _ := fz x1_2
  have _ := ltb x1_2
  have X1_0 := hid x1_0; clear x1_0
  have X1_1 := hid x1_1; clear x1_1
  have X1_2 := hid x1_2; clear x1_2
  have G1 := hid (g1)
  clear hg1 g1
  go_wp2
  refine bodyPost_ret (v := fr c d) (by simp [results, Try.results170, go_sem, *]) rfl ⟨rfl, ?_⟩
  exact ((G1.out).setCell (by simp <;> omega) _).setCell (by simp <;> omega) _
set_option maxRecDepth 20000 in
set_option maxHeartbeats 400000 in
theorem sless_n (a b c d : Int) (w : World) (h1 : okB a b = true) (h2 : okB c d = true) (hd : decide (cmpI c d a b < 0) = false) :
    Calls Try.prog 170 #[fr a b, fr c d] w fun e w' => e = .returned (fr a b) ∧ Gr w w' := by
  have h1 := hid h1; have h2 := hid h2
  go_enter Try.func170, Try.ntmps170
  go_wp2_with fail
  refine (scmp_ok _ _ _ _ _ h2.out h1.out).mono ?_
  rintro e w1 ⟨rfl, hg1⟩
  obtain ⟨x1_0, x1_1, x1_2, hz1, g1⟩ := alloc3 hg1
  obtain ⟨_, _⟩ := cells2 x1_0
  have _ := fz x1_0
  have _ := ltb x1_0
  obtain ⟨_, _⟩ := cells2 x1_1
  have _ := fz x1_1
  have _ := ltb x1_1
  obtain ⟨_, _⟩ := cells2 x1_2
  have _ := fz x1_2
  have _ := ltb x1_2
  have X1_0 := hid x1_0; clear x1_0
  have X1_1 := hid x1_1; clear x1_1
  have X1_2 := hid x1_2; clear x1_2
  have G1 := hid (g1)
  clear hg1 g1
  go_wp2
  refine bodyPost_ret (v := fr a b) (by simp [results, Try.results170, go_sem, *]) rfl ⟨rfl, ?_⟩
  exact ((G1.out).setCell (by simp <;> omega) _).setCell (by simp <;> omega) _
theorem sless (a b c d : Int) (w : World) (h1 : okB a b = true) (h2 : okB c d = true) :
    Calls Try.prog 170 #[fr a b, fr c d] w fun e w' => e = .returned (fr (mnP a b c d) (mnQ a b c d)) ∧ Gr w w' := by
  unfold mnP mnQ
  by_cases h : cmpI c d a b < 0
  · simp only [if_pos h]; exact sless_y a b c d w h1 h2 (by simpa using h)
  · simp only [if_neg h]; exact sless_n a b c d w h1 h2 (by simpa using h)
set_option maxRecDepth 20000 in
set_option maxHeartbeats 400000 in
theorem smeet (a b c d a' b' c' d' : Int) (w : World) (h1 : okB a b = true) (h2 : okB c d = true) (h3 : okB a' b' = true) (h4 : okB c' d' = true) :
    Calls Try.prog 95 #[sp a b c d, sp a' b' c' d'] w fun e w' => e = .returned (.tuple #[sp (mxP a b a' b') (mxQ a b a' b') (mnP c d c' d') (mnQ c d c' d'), .bool (decide (cmpI (mxP a b a' b') (mxQ a b a' b') (mnP c d c' d') (mnQ c d c' d') ≤ 0))]) ∧ Gr w w' := by
  have h1 := hid h1; have h2 := hid h2; have h3 := hid h3; have h4 := hid h4
  go_enter Try.func95, Try.ntmps95
  go_wp2_with fail
  refine wp_reg1 (b0 := .cells #[.int .i64 0, .int .i64 0, .int .i64 0, .int .i64 0] 85) 12 11 6 (by kernel_rfl) (by kernel_rfl) rfl rfl (by simp) (fun _ _ => by kernel_rfl) ?_
  apply Exists.intro
  refine ⟨fun wb hb => ?_, ?_⟩
  · obtain ⟨y0, y1, y2, _, _⟩ := alloc3 (Gr.refl _)
    obtain ⟨_, _, _, _⟩ := hb.at4 y0
    obtain ⟨_, _, _, _⟩ := hb.at4 y1
    obtain ⟨_, _, _, _⟩ := hb.at4 y2
    clear y0 y1 y2
    simp only [headOps, List.contains, List.elem, Nat.reduceAdd, Nat.reduceBEq, reduceIte, Bool.false_eq_true, dumOp]
    repeat (first | go_big_quiet_step (first | (go_at_call 169; with_reducible exact Calls.of_gr (smore a b a' b' _ h1.out h3.out)) | (go_at_call 170; with_reducible exact Calls.of_gr (sless c d c' d' _ h2.out h4.out))) | quiet_step (fail))
    exact wpQuiet_nil rfl
  intro w1 b1 hg1 hb1 xb1
  have N1_0 := hid (Nat.ne_of_lt (Nat.lt_of_lt_of_le (ltb (alloc3 (Gr.refl _)).1) hb1))
  have N1_1 := hid (Nat.ne_of_lt (Nat.lt_of_lt_of_le (ltb (alloc3 (Gr.refl _)).2.1) hb1))
  have N1_2 := hid (Nat.ne_of_lt (Nat.lt_of_lt_of_le (ltb (alloc3 (Gr.refl _)).2.2.1) hb1))
  have hge1 := hid (Nat.le_trans (((((Gr.refl _)).al _).al _).al _).size hb1)
  obtain ⟨x1_0, x1_1, x1_2, hz1, g1⟩ := alloc3 hg1
  obtain ⟨_, _, _, _⟩ := cells4 x1_0
  have _ := fz x1_0
  have _ := ltb x1_0
  obtain ⟨_, _, _, _⟩ := cells4 x1_1
  have _ := fz x1_1
  have _ := ltb x1_1
  obtain ⟨_, _, _, _⟩ := cells4 x1_2
  have _ := fz x1_2
  have _ := ltb x1_2
  obtain ⟨_, _, _, _⟩ := cells4 xb1
  have _ := fz xb1
  have _ := ltb xb1
  have X1_0 := hid x1_0; clear x1_0
  have X1_1 := hid x1_1; clear x1_1
  have X1_2 := hid x1_2; clear x1_2
  have Xb1 := hid xb1; clear xb1
  have G1 := hid (g1)
  clear hg1 g1
  clear hb1
  go_wp2_with fail
  have M0 := hid (ne_of X1_0.out X1_2.out (by first | omega | exact Ne.symm N1_0.out | exact Ne.symm N1_1.out | exact Ne.symm N1_2.out))
  have M1 := hid (ne_of X1_1.out X1_2.out (by first | omega | exact Ne.symm N1_0.out | exact Ne.symm N1_1.out | exact Ne.symm N1_2.out))
  have M3 := hid (ne_of Xb1.out X1_2.out (by first | omega | exact Ne.symm N1_0.out | exact Ne.symm N1_1.out | exact Ne.symm N1_2.out))
  refine wp_regO 8 7 4 18 (by kernel_rfl) (by kernel_rfl) rfl (by decide) rfl rfl rfl rfl (by kernel_rfl) (set4_old X1_2.out N1_2.out) (by kernel_rfl) ?_
  apply Exists.intro; apply Exists.intro
  refine ⟨fun wb hb => ?_, ?_⟩
  · obtain ⟨_, _, _, _⟩ := atO4 hb (set4_old X1_0.out N1_0.out) M0.out
    obtain ⟨_, _, _, _⟩ := atO4 hb (set4_old X1_1.out N1_1.out) M1.out
    obtain ⟨_, _, _, _⟩ := atO4 hb (set4_new Xb1.out) M3.out
    simp only [headOps, List.contains, List.elem, Nat.reduceAdd, Nat.reduceBEq, reduceIte, Bool.false_eq_true, dumOp]
    repeat (first | go_big_quiet_step (first | (go_at_call 171; exact Calls.of_gr (scmp_ok _ _ _ _ _ (ok_mx h1.out h3.out) (ok_mn h2.out h4.out)))) | quiet_step (fail))
    exact wpQuiet_nil rfl
  refine ⟨rfl, ⟨rfl, by simp [Value.oneCell']⟩, fun w2 hg2 => ?_⟩
  have x2_0 := hg2.keep (row_old (set4_old X1_0.out N1_0.out) M0.out)
  have x2_1 := hg2.keep (row_old (set4_old X1_1.out N1_1.out) M1.out)
  have x2_2 := hg2.keep (row_new (set4_old X1_2.out N1_2.out))
  have x2_3 := hg2.keep (row_old (set4_new Xb1.out) M3.out)
  obtain ⟨_, _, _, _⟩ := cells4 x2_0
  have _ := fz x2_0
  have _ := ltb x2_0
  obtain ⟨_, _, _, _⟩ := cells4 x2_1
  have _ := fz x2_1
  have _ := ltb x2_1
  obtain ⟨_, _, _, _⟩ := cells4 x2_2
  have _ := fz x2_2
  have _ := ltb x2_2
  obtain ⟨_, _, _, _⟩ := cells4 x2_3
  have _ := fz x2_3
  have _ := ltb x2_3
  have X2_0 := hid x2_0; clear x2_0
  have X2_1 := hid x2_1; clear x2_1
  have X2_2 := hid x2_2; clear x2_2
  have X2_3 := hid x2_3; clear x2_3
  have G2 := hid (((((((G1.out).setCell hge1.out _).setCell hge1.out _).setCell hge1.out _).setCell hge1.out _).setRow (by first | omega | (simp; done) | (simp; omega)) _).trans hg2); clear hg2
  go_wp2
  refine bodyPost_ret (v := .tuple #[sp (mxP a b a' b') (mxQ a b a' b') (mnP c d c' d') (mnQ c d c' d'), .bool (decide (cmpI (mxP a b a' b') (mxQ a b a' b') (mnP c d c' d') (mnQ c d c' d') ≤ 0))]) (by simp [results, Try.results95, go_sem, *]) rfl ⟨rfl, ?_⟩
  exact G2.out
set_option maxRecDepth 20000 in
set_option maxHeartbeats 400000 in
theorem iMeet_n1 (a b c d a' b' c' d' : Int) (w : World) (h1 : spB a b c d = false) :
    Calls Try.prog 174 #[sp a b c d, sp a' b' c' d'] w fun e w' => e = .returned (.tuple #[sp 0 0 0 0, .int .i64 1]) ∧ Gr w w' := by
  have h1 := hid h1
  go_enter Try.func174, Try.ntmps174
  go_wp2_with fail
  refine (iSpan_f _ _ _ _ _ h1.out).mono ?_
  rintro e w1 ⟨rfl, hg1⟩
  obtain ⟨x1_0, x1_1, x1_2, hz1, g1⟩ := alloc3 hg1
  obtain ⟨_, _, _, _⟩ := cells4 x1_0
  have _ := fz x1_0
  have _ := ltb x1_0
  obtain ⟨_, _, _, _⟩ := cells4 x1_1
  have _ := fz x1_1
  have _ := ltb x1_1
  obtain ⟨_, _, _, _⟩ := cells4 x1_2
  have _ := fz x1_2
  have _ := ltb x1_2
  have X1_0 := hid x1_0; clear x1_0
  have X1_1 := hid x1_1; clear x1_1
  have X1_2 := hid x1_2; clear x1_2
  have G1 := hid (g1)
  clear hg1 g1
  go_wp2
  refine bodyPost_ret (v := .tuple #[sp 0 0 0 0, .int .i64 1]) (by simp [results, Try.results174, go_sem, *]) rfl ⟨rfl, ?_⟩
  exact ((((G1.out).setCell (by simp <;> omega) _).setCell (by simp <;> omega) _).setCell (by simp <;> omega) _).setCell (by simp <;> omega) _
set_option maxRecDepth 20000 in
set_option maxHeartbeats 400000 in
theorem iMeet_n2 (a b c d a' b' c' d' : Int) (w : World) (h1 : spB a b c d = true) (h2 : spB a' b' c' d' = false) :
    Calls Try.prog 174 #[sp a b c d, sp a' b' c' d'] w fun e w' => e = .returned (.tuple #[sp 0 0 0 0, .int .i64 1]) ∧ Gr w w' := by
  have h1 := hid h1
  have h2 := hid h2
  go_enter Try.func174, Try.ntmps174
  go_wp2_with fail
  refine (iSpan_t _ _ _ _ _ h1.out).mono ?_
  rintro e w1 ⟨rfl, hg1⟩
  obtain ⟨x1_0, x1_1, x1_2, hz1, g1⟩ := alloc3 hg1
  obtain ⟨_, _, _, _⟩ := cells4 x1_0
  have _ := fz x1_0
  have _ := ltb x1_0
  obtain ⟨_, _, _, _⟩ := cells4 x1_1
  have _ := fz x1_1
  have _ := ltb x1_1
  obtain ⟨_, _, _, _⟩ := cells4 x1_2
  have _ := fz x1_2
  have _ := ltb x1_2
  have X1_0 := hid x1_0; clear x1_0
  have X1_1 := hid x1_1; clear x1_1
  have X1_2 := hid x1_2; clear x1_2
  have G1 := hid (g1)
  clear hg1 g1
  go_wp2_with fail
  refine (iSpan_f _ _ _ _ _ h2.out).mono ?_
  rintro e w2 ⟨rfl, hg2⟩
  have x2_1 := hg2.keep X1_0.out
  have x2_2 := hg2.keep X1_1.out
  have x2_3 := hg2.keep X1_2.out
  obtain ⟨_, _, _, _⟩ := cells4 x2_1
  have _ := fz x2_1
  have _ := ltb x2_1
  obtain ⟨_, _, _, _⟩ := cells4 x2_2
  have _ := fz x2_2
  have _ := ltb x2_2
  obtain ⟨_, _, _, _⟩ := cells4 x2_3
  have _ := fz x2_3
  have _ := ltb x2_3
  have X2_1 := hid x2_1; clear x2_1
  have X2_2 := hid x2_2; clear x2_2
  have X2_3 := hid x2_3; clear x2_3
  have G2 := hid (G1.out.trans hg2)
  clear hg2
  go_wp2
  refine bodyPost_ret (v := .tuple #[sp 0 0 0 0, .int .i64 1]) (by simp [results, Try.results174, go_sem, *]) rfl ⟨rfl, ?_⟩
  exact ((((G2.out).setCell (by simp <;> omega) _).setCell (by simp <;> omega) _).setCell (by simp <;> omega) _).setCell (by simp <;> omega) _
set_option maxRecDepth 20000 in
set_option maxHeartbeats 400000 in
theorem iMeet_e (a b c d a' b' c' d' : Int) (w : World) (h1 : spB a b c d = true) (h2 : spB a' b' c' d' = true) (hd : decide (0 < cmpI (mxP a b a' b') (mxQ a b a' b') (mnP c d c' d') (mnQ c d c' d')) = true) :
    Calls Try.prog 174 #[sp a b c d, sp a' b' c' d'] w fun e w' => e = .returned (.tuple #[sp 0 0 0 0, .int .i64 6]) ∧ Gr w w' := by
  have O1 := hid (spB_ok h1); have O2 := hid (spB_ok h2)
  have h1 := hid h1; have h2 := hid h2
  go_enter Try.func174, Try.ntmps174
  go_wp2_with fail
  refine (iSpan_t _ _ _ _ _ h1.out).mono ?_
  rintro e w1 ⟨rfl, hg1⟩
  obtain ⟨x1_0, x1_1, x1_2, hz1, g1⟩ := alloc3 hg1
  obtain ⟨_, _, _, _⟩ := cells4 x1_0
  have _ := fz x1_0
  have _ := ltb x1_0
  obtain ⟨_, _, _, _⟩ := cells4 x1_1
  have _ := fz x1_1
  have _ := ltb x1_1
  obtain ⟨_, _, _, _⟩ := cells4 x1_2
  have _ := fz x1_2
  have _ := ltb x1_2
  have X1_0 := hid x1_0; clear x1_0
  have X1_1 := hid x1_1; clear x1_1
  have X1_2 := hid x1_2; clear x1_2
  have G1 := hid (g1)
  clear hg1 g1
  go_wp2_with fail
  refine (iSpan_t _ _ _ _ _ h2.out).mono ?_
  rintro e w2 ⟨rfl, hg2⟩
  have x2_1 := hg2.keep X1_0.out
  have x2_2 := hg2.keep X1_1.out
  have x2_3 := hg2.keep X1_2.out
  obtain ⟨_, _, _, _⟩ := cells4 x2_1
  have _ := fz x2_1
  have _ := ltb x2_1
  obtain ⟨_, _, _, _⟩ := cells4 x2_2
  have _ := fz x2_2
  have _ := ltb x2_2
  obtain ⟨_, _, _, _⟩ := cells4 x2_3
  have _ := fz x2_3
  have _ := ltb x2_3
  have X2_1 := hid x2_1; clear x2_1
  have X2_2 := hid x2_2; clear x2_2
  have X2_3 := hid x2_3; clear x2_3
  have G2 := hid (G1.out.trans hg2)
  clear hg2
  go_wp2_with fail
  refine wp_reg1 (b0 := .cells #[.int .i64 0, .int .i64 0, .int .i64 0, .int .i64 0] 85) 12 11 6 (by kernel_rfl) (by kernel_rfl) rfl rfl (by simp) (fun _ _ => by kernel_rfl) ?_
  apply Exists.intro
  refine ⟨fun wb hb => ?_, ?_⟩
  · obtain ⟨_, _, _, _⟩ := hb.at4 X2_1.out
    obtain ⟨_, _, _, _⟩ := hb.at4 X2_2.out
    obtain ⟨_, _, _, _⟩ := hb.at4 X2_3.out
    simp only [headOps, List.contains, List.elem, Nat.reduceAdd, Nat.reduceBEq, reduceIte, Bool.false_eq_true, dumOp]
    repeat (first | go_big_quiet_step (first | (go_at_call 221; with_reducible exact Calls.of_gr (igreatest a b a' b' _ O1.out.1 O2.out.1)) | (go_at_call 222; with_reducible exact Calls.of_gr (ileast c d c' d' _ O1.out.2.1 O2.out.2.1))) | quiet_step (fail))
    exact wpQuiet_nil rfl
  intro w3 b3 hg3 hb3 xb3
  have N3_0 := hid (Nat.ne_of_lt (Nat.lt_of_lt_of_le (ltb X2_1.out) hb3))
  have N3_1 := hid (Nat.ne_of_lt (Nat.lt_of_lt_of_le (ltb X2_2.out) hb3))
  have N3_2 := hid (Nat.ne_of_lt (Nat.lt_of_lt_of_le (ltb X2_3.out) hb3))
  have hge3 := hid (Nat.le_trans (G2.out).size hb3)
  have x3_1 := hg3.keep X2_1.out
  have x3_2 := hg3.keep X2_2.out
  have x3_3 := hg3.keep X2_3.out
  obtain ⟨_, _, _, _⟩ := cells4 x3_1
  have _ := fz x3_1
  have _ := ltb x3_1
  obtain ⟨_, _, _, _⟩ := cells4 x3_2
  have _ := fz x3_2
  have _ := ltb x3_2
  obtain ⟨_, _, _, _⟩ := cells4 x3_3
  have _ := fz x3_3
  have _ := ltb x3_3
  obtain ⟨_, _, _, _⟩ := cells4 xb3
  have _ := fz xb3
  have _ := ltb xb3
  have X3_1 := hid x3_1; clear x3_1
  have X3_2 := hid x3_2; clear x3_2
  have X3_3 := hid x3_3; clear x3_3
  have Xb3 := hid xb3; clear xb3
  have G3 := hid (G2.out.trans hg3)
  clear hg3
  clear hb3
  go_wp2_with fail
  refine (iord _ _ _ _ _ (ok_mx O1.out.1 O2.out.1) (ok_mn O1.out.2.1 O2.out.2.1)).mono ?_
  rintro e w4 ⟨rfl, hg4⟩
  have x4_1 := hg4.keep (set4_old X3_1.out N3_0.out)
  have x4_2 := hg4.keep (set4_old X3_2.out N3_1.out)
  have x4_3 := hg4.keep (set4_old X3_3.out N3_2.out)
  have x4_4 := hg4.keep (set4_new Xb3.out)
  obtain ⟨_, _, _, _⟩ := cells4 x4_1
  have _ := fz x4_1
  have _ := ltb x4_1
  obtain ⟨_, _, _, _⟩ := cells4 x4_2
  have _ := fz x4_2
  have _ := ltb x4_2
  obtain ⟨_, _, _, _⟩ := cells4 x4_3
  have _ := fz x4_3
  have _ := ltb x4_3
  obtain ⟨_, _, _, _⟩ := cells4 x4_4
  have _ := fz x4_4
  have _ := ltb x4_4
  have X4_1 := hid x4_1; clear x4_1
  have X4_2 := hid x4_2; clear x4_2
  have X4_3 := hid x4_3; clear x4_3
  have X4_4 := hid x4_4; clear x4_4
  have G4 := hid ((((((G3.out).setCell hge3.out _).setCell hge3.out _).setCell hge3.out _).setCell hge3.out _).trans hg4)
  clear hg4
  go_wp2
  refine bodyPost_ret (v := .tuple #[sp 0 0 0 0, .int .i64 6]) (by simp [results, Try.results174, go_sem, *]) rfl ⟨rfl, ?_⟩
  exact ((((G4.out).setCell (by simp <;> omega) _).setCell (by simp <;> omega) _).setCell (by simp <;> omega) _).setCell (by simp <;> omega) _
set_option maxRecDepth 20000 in
set_option maxHeartbeats 400000 in
theorem iMeet_y (a b c d a' b' c' d' : Int) (w : World) (h1 : spB a b c d = true) (h2 : spB a' b' c' d' = true) (hd : decide (0 < cmpI (mxP a b a' b') (mxQ a b a' b') (mnP c d c' d') (mnQ c d c' d')) = false) :
    Calls Try.prog 174 #[sp a b c d, sp a' b' c' d'] w fun e w' => e = .returned (.tuple #[sp (mxP a b a' b') (mxQ a b a' b') (mnP c d c' d') (mnQ c d c' d'), .int .i64 0]) ∧ Gr w w' := by
  have O1 := hid (spB_ok h1); have O2 := hid (spB_ok h2)
  have h1 := hid h1; have h2 := hid h2
  go_enter Try.func174, Try.ntmps174
  go_wp2_with fail
  refine (iSpan_t _ _ _ _ _ h1.out).mono ?_
  rintro e w1 ⟨rfl, hg1⟩
  obtain ⟨x1_0, x1_1, x1_2, hz1, g1⟩ := alloc3 hg1
  obtain ⟨_, _, _, _⟩ := cells4 x1_0
  have _ := fz x1_0
  have _ := ltb x1_0
  obtain ⟨_, _, _, _⟩ := cells4 x1_1
  have _ := fz x1_1
  have _ := ltb x1_1
  obtain ⟨_, _, _, _⟩ := cells4 x1_2
  have _ := fz x1_2
  have _ := ltb x1_2
  have X1_0 := hid x1_0; clear x1_0
  have X1_1 := hid x1_1; clear x1_1
  have X1_2 := hid x1_2; clear x1_2
  have G1 := hid (g1)
  clear hg1 g1
  go_wp2_with fail
  refine (iSpan_t _ _ _ _ _ h2.out).mono ?_
  rintro e w2 ⟨rfl, hg2⟩
  have x2_1 := hg2.keep X1_0.out
  have x2_2 := hg2.keep X1_1.out
  have x2_3 := hg2.keep X1_2.out
  obtain ⟨_, _, _, _⟩ := cells4 x2_1
  have _ := fz x2_1
  have _ := ltb x2_1
  obtain ⟨_, _, _, _⟩ := cells4 x2_2
  have _ := fz x2_2
  have _ := ltb x2_2
  obtain ⟨_, _, _, _⟩ := cells4 x2_3
  have _ := fz x2_3
  have _ := ltb x2_3
  have X2_1 := hid x2_1; clear x2_1
  have X2_2 := hid x2_2; clear x2_2
  have X2_3 := hid x2_3; clear x2_3
  have G2 := hid (G1.out.trans hg2)
  clear hg2
  go_wp2_with fail
  refine wp_reg1 (b0 := .cells #[.int .i64 0, .int .i64 0, .int .i64 0, .int .i64 0] 85) 12 11 6 (by kernel_rfl) (by kernel_rfl) rfl rfl (by simp) (fun _ _ => by kernel_rfl) ?_
  apply Exists.intro
  refine ⟨fun wb hb => ?_, ?_⟩
  · obtain ⟨_, _, _, _⟩ := hb.at4 X2_1.out
    obtain ⟨_, _, _, _⟩ := hb.at4 X2_2.out
    obtain ⟨_, _, _, _⟩ := hb.at4 X2_3.out
    simp only [headOps, List.contains, List.elem, Nat.reduceAdd, Nat.reduceBEq, reduceIte, Bool.false_eq_true, dumOp]
    repeat (first | go_big_quiet_step (first | (go_at_call 221; with_reducible exact Calls.of_gr (igreatest a b a' b' _ O1.out.1 O2.out.1)) | (go_at_call 222; with_reducible exact Calls.of_gr (ileast c d c' d' _ O1.out.2.1 O2.out.2.1))) | quiet_step (fail))
    exact wpQuiet_nil rfl
  intro w3 b3 hg3 hb3 xb3
  have N3_0 := hid (Nat.ne_of_lt (Nat.lt_of_lt_of_le (ltb X2_1.out) hb3))
  have N3_1 := hid (Nat.ne_of_lt (Nat.lt_of_lt_of_le (ltb X2_2.out) hb3))
  have N3_2 := hid (Nat.ne_of_lt (Nat.lt_of_lt_of_le (ltb X2_3.out) hb3))
  have hge3 := hid (Nat.le_trans (G2.out).size hb3)
  have x3_1 := hg3.keep X2_1.out
  have x3_2 := hg3.keep X2_2.out
  have x3_3 := hg3.keep X2_3.out
  obtain ⟨_, _, _, _⟩ := cells4 x3_1
  have _ := fz x3_1
  have _ := ltb x3_1
  obtain ⟨_, _, _, _⟩ := cells4 x3_2
  have _ := fz x3_2
  have _ := ltb x3_2
  obtain ⟨_, _, _, _⟩ := cells4 x3_3
  have _ := fz x3_3
  have _ := ltb x3_3
  obtain ⟨_, _, _, _⟩ := cells4 xb3
  have _ := fz xb3
  have _ := ltb xb3
  have X3_1 := hid x3_1; clear x3_1
  have X3_2 := hid x3_2; clear x3_2
  have X3_3 := hid x3_3; clear x3_3
  have Xb3 := hid xb3; clear xb3
  have G3 := hid (G2.out.trans hg3)
  clear hg3
  clear hb3
  go_wp2_with fail
  refine (iord _ _ _ _ _ (ok_mx O1.out.1 O2.out.1) (ok_mn O1.out.2.1 O2.out.2.1)).mono ?_
  rintro e w4 ⟨rfl, hg4⟩
  have x4_1 := hg4.keep (set4_old X3_1.out N3_0.out)
  have x4_2 := hg4.keep (set4_old X3_2.out N3_1.out)
  have x4_3 := hg4.keep (set4_old X3_3.out N3_2.out)
  have x4_4 := hg4.keep (set4_new Xb3.out)
  obtain ⟨_, _, _, _⟩ := cells4 x4_1
  have _ := fz x4_1
  have _ := ltb x4_1
  obtain ⟨_, _, _, _⟩ := cells4 x4_2
  have _ := fz x4_2
  have _ := ltb x4_2
  obtain ⟨_, _, _, _⟩ := cells4 x4_3
  have _ := fz x4_3
  have _ := ltb x4_3
  obtain ⟨_, _, _, _⟩ := cells4 x4_4
  have _ := fz x4_4
  have _ := ltb x4_4
  have X4_1 := hid x4_1; clear x4_1
  have X4_2 := hid x4_2; clear x4_2
  have X4_3 := hid x4_3; clear x4_3
  have X4_4 := hid x4_4; clear x4_4
  have G4 := hid ((((((G3.out).setCell hge3.out _).setCell hge3.out _).setCell hge3.out _).setCell hge3.out _).trans hg4)
  clear hg4
  go_wp2
  refine bodyPost_ret (v := .tuple #[sp (mxP a b a' b') (mxQ a b a' b') (mnP c d c' d') (mnQ c d c' d'), .int .i64 0]) (by simp [results, Try.results174, go_sem, *]) rfl ⟨rfl, ?_⟩
  exact ((((G4.out).setCell (by simp <;> omega) _).setCell (by simp <;> omega) _).setCell (by simp <;> omega) _).setCell (by simp <;> omega) _
end Go.Proofs.Ytfpcbgfcachlgaa
