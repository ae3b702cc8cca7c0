/- WALKS: the greater and the lesser one of two fractions; MeetSpans, of the program and of the reference. -/
import Derived.Test.YtmjcnagniphkeaaU
import Derived.Test.YtmjcnagniphkeaaV
import Derived.Test.YtmjcnagniphkeaaB0
namespace Go.Proofs.Ytmjcnagniphkeaa
open Go.RowKit Go.Sort

/-- The greater, the lesser one of a / b and c / d. -/
def mxP (a b c d : Int) : Int := if 0 < cmpI c d a b then c else a
def mxQ (a b c d : Int) : Int := if 0 < cmpI c d a b then d else b
def mnP (a b c d : Int) : Int := if cmpI c d a b < 0 then c else a
def mnQ (a b c d : Int) : Int := if cmpI c d a b < 0 then d else b
theorem ok_mx {a b c d : Int} (h1 : okB a b = true) (h2 : okB c d = true) : okB (mxP a b c d) (mxQ a b c d) = true := by
  unfold mxP mxQ; split <;> assumption
theorem ok_mn {a b c d : Int} (h1 : okB a b = true) (h2 : okB c d = true) : okB (mnP a b c d) (mnQ a b c d) = true := by
  unfold mnP mnQ; split <;> assumption
theorem cmp_bd {a b c d : Int} (h1 : okB a b = true) (h2 : okB c d = true) : (-1000000000000000000 ≤ a * d ∧ a * d ≤ 1000000000000000000) ∧ (-1000000000000000000 ≤ c * b ∧ c * b ≤ 1000000000000000000) := by
  obtain ⟨b1, b2, b3, b4⟩ := okB_bd h1
  obtain ⟨d1, d2, d3, d4⟩ := okB_bd h2
  exact ⟨mul_bd b3 b4 (by omega) d2, mul_bd d3 d4 (by omega) b2⟩
theorem scmp_ok (a b c d : Int) (w : World) (h1 : okB a b = true) (h2 : okB c d = true) :
    Calls Try.prog 139 #[fr a b, fr c d] w fun e w' => e = .returned (.int .i64 (cmpI a b c d)) ∧ Gr w w' :=
  scmp a b c d w (cmp_bd h1 h2).1.1 (cmp_bd h1 h2).1.2 (cmp_bd h1 h2).2.1 (cmp_bd h1 h2).2.2
set_option maxRecDepth 20000 in
set_option maxHeartbeats 400000 in
theorem igreatest_y (a b c d : Int) (w : World) (h1 : okB a b = true) (h2 : okB c d = true) (hd : decide (0 < cmpI c d a b) = true) :
    Calls Try.prog 77 #[fr a b, fr c d] w fun e w' => e = .returned (fr c d) ∧ Gr w w' := by
  have h1 := hid h1; have h2 := hid h2
  go_enter Try.func77, Try.ntmps77
  go_wp2_with fail
  refine (iord _ _ _ _ _ h2.out h1.out).mono ?_
  rintro e w1 ⟨rfl, hg1⟩
  obtain ⟨x1_0, x1_1, x1_2, hz1, g1⟩ := alloc3 hg1
  obtain ⟨_, _⟩ := cells2 x1_0
  have _ := fz x1_0
  have _ := ltb x1_0
  obtain ⟨_, _⟩ := cells2 x1_1
  have _ := fz x1_1
  have _ := ltb x1_1
  obtain ⟨_, _⟩ := cells2 x1_2
  have _ := fz x1_2
  have _ := ltb x1_2
  have X1_0 := hid x1_0; clear x1_0
  have X1_1 := hid x1_1; clear x1_1
  have X1_2 := hid x1_2; clear x1_2
  have G1 := hid (g1)
  clear hg1 g1
  go_wp2
  refine bodyPost_ret (v := fr c d) (by simp [results, Try.results77, go_sem, *]) rfl ⟨rfl, ?_⟩
  exact ((G1.out).setCell (by simp <;> omega) _).setCell (by simp <;> omega) _
set_option maxRecDepth 20000 in
set_option maxHeartbeats 400000 in
theorem igreatest_n (a b c d : Int) (w : World) (h1 : okB a b = true) (h2 : okB c d = true) (hd : decide (0 < cmpI c d a b) = false) :
    Calls Try.prog 77 #[fr a b, fr c d] w fun e w' => e = .returned (fr a b) ∧ Gr w w' := by
  have h1 := hid h1; have h2 := hid h2
  go_enter Try.func77, Try.ntmps77
  go_wp2_with fail
  refine (iord _ _ _ _ _ h2.out h1.out).mono ?_
  rintro e w1 ⟨rfl, hg1⟩
  obtain ⟨x1_0, x1_1, x1_2, hz1, g1⟩ := alloc3 hg1
  obtain ⟨_, _⟩ := cells2 x1_0
  have _ := fz x1_0
  have _ := ltb x1_0
  obtain ⟨_, _⟩ := cells2 x1_1
  have _ := fz x1_1
  have _ := ltb x1_1
  obtain ⟨_, _⟩ := cells2 x1_2
  have _ := fz x1_2
  have _ := ltb x1_2
  have X1_0 := hid x1_0; clear x1_0
  have X1_1 := hid x1_1; clear x1_1
  have X1_2 := hid x1_2; clear x1_2
  have G1 := hid (g1)
  clear hg1 g1
  go_wp2
  refine bodyPost_ret (v := fr a b) (by simp [results, Try.results77, go_sem, *]) rfl ⟨rfl, ?_⟩
  exact ((G1.out).setCell (by simp <;> omega) _).setCell (by simp <;> omega) _
theorem igreatest (a b c d : Int) (w : World) (h1 : okB a b = true) (h2 : okB c d = true) :
    Calls Try.prog 77 #[fr a b, fr c d] w fun e w' => e = .returned (fr (mxP a b c d) (mxQ a b c d)) ∧ Gr w w' := by
  unfold mxP mxQ
  by_cases h : 0 < cmpI c d a b
  · simp only [if_pos h]; exact igreatest_y a b c d w h1 h2 (by simpa using h)
  · simp only [if_neg h]; exact igreatest_n a b c d w h1 h2 (by simpa using h)
set_option maxRecDepth 20000 in
set_option maxHeartbeats 400000 in
theorem ileast_y (a b c d : Int) (w : World) (h1 : okB a b = true) (h2 : okB c d = true) (hd : decide (cmpI c d a b < 0) = true) :
    Calls Try.prog 76 #[fr a b, fr c d] w fun e w' => e = .returned (fr c d) ∧ Gr w w' := by
  have h1 := hid h1; have h2 := hid h2
  go_enter Try.func76, Try.ntmps76
  go_wp2_with fail
  refine (iord _ _ _ _ _ h2.out h1.out).mono ?_
  rintro e w1 ⟨rfl, hg1⟩
  obtain ⟨x1_0, x1_1, x1_2, hz1, g1⟩ := alloc3 hg1
  obtain ⟨_, _⟩ := cells2 x1_0
  have _ := fz x1_0
  have _ := ltb x1_0
  obtain ⟨_, _⟩ := cells2 x1_1
  have _ := fz x1_1
  have _ := ltb x1_1
  obtain ⟨_, _⟩ := cells2 x1_2
  have _ := fz x1_2
  have _ := ltb x1_2
  have X1_0 := hid x1_0; clear x1_0
  have X1_1 := hid x1_1; clear x1_1
  have X1_2 := hid x1_2; clear x1_2
  have G1 := hid (g1)
  clear hg1 g1
  go_wp2
  refine bodyPost_ret (v := fr c d) (by simp [results, Try.results76, go_sem, *]) rfl ⟨rfl, ?_⟩
  exact ((G1.out).setCell (by simp <;> omega) _).setCell (by simp <;> omega) _
set_option maxRecDepth 20000 in
set_option maxHeartbeats 400000 in
theorem ileast_n (a b c d : Int) (w : World) (h1 : okB a b = true) (h2 : okB c d = true) (hd : decide (cmpI c d a b < 0) = false) :
    Calls Try.prog 76 #[fr a b, fr c d] w fun e w' => e = .returned (fr a b) ∧ Gr w w' := by
  have h1 := hid h1; have h2 := hid h2
  go_enter Try.func76, Try.ntmps76
  go_wp2_with fail
  refine (iord _ _ _ _ _ h2.out h1.out).mono ?_
  rintro e w1 ⟨rfl, hg1⟩
  obtain ⟨x1_0, x1_1, x1_2, hz1, g1⟩ := alloc3 hg1
  obtain ⟨_, _⟩ := cells2 x1_0
  have _ := fz x1_0
  have _ := ltb x1_0
  obtain ⟨_, _⟩ := cells2 x1_1
  have _ := fz x1_1
  have _ := ltb x1_1
  obtain ⟨_, _⟩ := cells2 x1_2
  have _ := fz x1_2
  have _ := ltb x1_2
  have X1_0 := hid x1_0; clear x1_0
  have X1_1 := hid x1_1; clear x1_1
  have X1_2 := hid x1_2; clear x1_2
  have G1 := hid (g1)
  clear hg1 g1
  go_wp2
  refine bodyPost_ret (v := fr a b) (by simp [results, Try.results76, go_sem, *]) rfl ⟨rfl, ?_⟩
  exact ((G1.out).setCell (by simp <;> omega) _).setCell (by simp <;> omega) _
theorem ileast (a b c d : Int) (w : World) (h1 : okB a b = true) (h2 : okB c d = true) :
    Calls Try.prog 76 #[fr a b, fr c d] w fun e w' => e = .returned (fr (mnP a b c d) (mnQ a b c d)) ∧ Gr w w' := by
  unfold mnP mnQ
  by_cases h : cmpI c d a b < 0
  · simp only [if_pos h]; exact ileast_y a b c d w h1 h2 (by simpa using h)
  · simp only [if_neg h]; exact ileast_n a b c d w h1 h2 (by simpa using h)
set_option maxRecDepth 20000 in
set_option maxHeartbeats 400000 in
theorem smore_y (a b c d : Int) (w : World) (h1 : okB a b = true) (h2 : okB c d = true) (hd : decide (0 < cmpI c d a b) = true) :
    Calls Try.prog 72 #[fr a b, fr c d] w fun e w' => e = .returned (fr c d) ∧ Gr w w' := by
  have h1 := hid h1; have h2 := hid h2
  go_enter Try.func72, Try.ntmps72
  go_wp2_with fail
  refine (scmp_ok _ _ _ _ _ h2.out h1.out).mono ?_
  rintro e w1 ⟨rfl, hg1⟩
  obtain ⟨x1_0, x1_1, x1_2, hz1, g1⟩ := alloc3 hg1
  obtain ⟨_, _⟩ := cells2 x1_0
  have _ := fz x1_0
  have _ := ltb x1_0
  obtain ⟨_, _⟩ := cells2 x1_1
  have _ := fz x1_1
  have _ := ltb x1_1
  obtain ⟨_, _⟩ := cells2 x1_2
  have _ := fz x1_2
  have _ := ltb x1_2
  have X1_0 := hid x1_0; clear x1_0
  have X1_1 := hid x1_1; clear x1_1
  have X1_2 := hid x1_2; clear x1_2
  have G1 := hid (g1)
  clear hg1 g1
  go_wp2
  refine bodyPost_ret (v := fr c d) (by simp [results, Try.results72, go_sem, *]) rfl ⟨rfl, ?_⟩
  exact ((G1.out).setCell (by simp <;> omega) _).setCell (by simp <;> omega) _
set_option maxRecDepth 20000 in
set_option maxHeartbeats 400000 in
theorem smore_n (a b c d : Int) (w : World) (h1 : okB a b = true) (h2 : okB c d = true) (hd : decide (0 < cmpI c d a b) = false) :
    Calls Try.prog 72 #[fr a b, fr c d] w fun e w' => e = .returned (fr a b) ∧ Gr w w' := by
  have h1 := hid h1; have h2 := hid h2
  go_enter Try.func72, Try.ntmps72
  go_wp2_with fail
  refine (scmp_ok _ _ _ _ _ h2.out h1.out).mono ?_
  rintro e w1 ⟨rfl, hg1⟩
  obtain ⟨x1_0, x1_1, x1_2, hz1, g1⟩ := alloc3 hg1
  obtain ⟨_, _⟩ := cells2 x1_0
  have _ := fz x1_0
  have _ := ltb x1_0
  obtain ⟨_, _⟩ := cells2 x1_1
  have _ := fz x1_1
  have _ := ltb x1_1
  obtain ⟨_, _⟩ := cells2 x1_2
  have _ := fz x1_2
  have _ := ltb x1_2
  have X1_0 := hid x1_0; clear x1_0
  have X1_1 := hid x1_1; clear x1_1
  have X1_2 := hid x1_2; clear x1_2
  have G1 := hid (g1)
  clear hg1 g1
  go_wp2
  refine bodyPost_ret (v := fr a b) (by simp [results, Try.results72, go_sem, *]) rfl ⟨rfl, ?_⟩
  exact ((G1.out).setCell (by simp <;> omega) _).setCell (by simp <;> omega) _
theorem smore (a b c d : Int) (w : World) (h1 : okB a b = true) (h2 : okB c d = true) :
    Calls Try.prog 72 #[fr a b, fr c d] w fun e w' => e = .returned (fr (mxP a b c d) (mxQ a b c d)) ∧ Gr w w' := by
  unfold mxP mxQ
  by_cases h : 0 < cmpI c d a b
  · simp only [if_pos h]; exact smore_y a b c d w h1 h2 (by simpa using h)
  · simp only [if_neg h]; exact smore_n a b c d w h1 h2 (by simpa using h)
set_option maxRecDepth 20000 in
set_option maxHeartbeats 400000 in
theorem sless_y (a b c d : Int) (w : World) (h1 : okB a b = true) (h2 : okB c d = true) (hd : decide (cmpI c d a b < 0) = true) :
    Calls Try.prog 71 #[fr a b, fr c d] w fun e w' => e = .returned (fr c d) ∧ Gr w w' := by
  have h1 := hid h1; have h2 := hid h2
  go_enter Try.func71, Try.ntmps71
  go_wp2_with fail
  refine (scmp_ok _ _ _ _ _ h2.out h1.out).mono ?_
  rintro e w1 ⟨rfl, hg1⟩
  obtain ⟨x1_0, x1_1, x1_2, hz1, g1⟩ := alloc3 hg1
  obtain ⟨_, _⟩ := cells2 x1_0
  have _ := fz x1_0
  have _ := ltb x1_0
  obtain ⟨_, _⟩ := cells2 x1_1
  have _ := fz x1_1
  have _ := ltb x1_1
  obtain ⟨_, _⟩ := cells2 x1_2
  have _ := fz x1_2
  have _ := ltb x1_2
  have X1_0 := hid x1_0; clear x1_0
  have X1_1 := hid x1_1; clear x1_1
  have X1_2 := hid x1_2; clear x1_2
  have G1 := hid (g1)
  clear hg1 g1
  go_wp2
  refine bodyPost_ret (v := fr c d) (by simp [results, Try.results71, go_sem, *]) rfl ⟨rfl, ?_⟩
  exact ((G1.out).setCell (by simp <;> omega) _).setCell (by simp <;> omega) _
set_option maxRecDepth 20000 in
set_option maxHeartbeats 400000 in
theorem sless_n (a b c d : Int) (w : World) (h1 : okB a b = true) (h2 : okB c d = true) (hd : decide (cmpI c d a b < 0) = false) :
    Calls Try.prog 71 #[fr a b, fr c d] w fun e w' => e = .returned (fr a b) ∧ Gr w w' := by
  have h1 := hid h1; have h2 := hid h2
  go_enter Try.func71, Try.ntmps71
  go_wp2_with fail
  refine (scmp_ok _ _ _ _ _ h2.out h1.out).mono ?_
  rintro e w1 ⟨rfl, hg1⟩
  obtain ⟨x1_0, x1_1, x1_2, hz1, g1⟩ := alloc3 hg1
  obtain ⟨_, _⟩ := cells2 x1_0
  have _ := fz x1_0
  have _ := ltb x1_0
  obtain ⟨_, _⟩ := cells2 x1_1
  have _ := fz x1_1
  have _ := ltb x1_1
  obtain ⟨_, _⟩ := cells2 x1_2
  have _ := fz x1_2
  have _ := ltb x1_2
  have X1_0 := hid x1_0; clear x1_0
  have X1_1 := hid x1_1; clear x1_1
  have X1_2 := hid x1_2; clear x1_2
  have G1 := hid (g1)
  clear hg1 g1
  go_wp2
  refine bodyPost_ret (v := fr a b) (by simp [results, Try.results71, go_sem, *]) rfl ⟨rfl, ?_⟩
  exact ((G1.out).setCell (by simp <;> omega) _).setCell (by simp <;> omega) _
theorem sless (a b c d : Int) (w : World) (h1 : okB a b = true) (h2 : okB c d = true) :
    Calls Try.prog 71 #[fr a b, fr c d] w fun e w' => e = .returned (fr (mnP a b c d) (mnQ a b c d)) ∧ Gr w w' := by
  unfold mnP mnQ
  by_cases h : cmpI c d a b < 0
  · simp only [if_pos h]; exact sless_y a b c d w h1 h2 (by simpa using h)
  · simp only [if_neg h]; exact sless_n a b c d w h1 h2 (by simpa using h)
end Go.Proofs.Ytmjcnagniphkeaa
