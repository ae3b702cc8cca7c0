/- WALKS: AddSpans, SubSpans, WidthOf, InSpan, of the program and of the reference. -/
import Derived.Test.YtenjljecnabajaaT
namespace Go.Proofs.Ytenjljecnabajaa
open Go.RowKit Go.Sort

set_option maxRecDepth 20000 in
set_option maxHeartbeats 400000 in
theorem sSpans_n1 (a b c d a' b' c' d' : Int) (w : World) (k1 k2 : Nat) (X1 : Hid (w.heap[k1]? = some (.cells #[.int .i64 a, .int .i64 b, .int .i64 c, .int .i64 d] 38))) (X2 : Hid (w.heap[k2]? = some (.cells #[.int .i64 a', .int .i64 b', .int .i64 c', .int .i64 d'] 38))) (h1 : spB a b c d = false) :
    Calls Try.prog 71 #[.pointer (some ⟨k1, 0, none⟩), .pointer (some ⟨k2, 0, none⟩)] w fun e w' => e = .returned (.int .i64 1) ∧ Gr w w' := by
  have h1 := hid h1
  go_enter Try.func71, Try.ntmps71
  obtain ⟨_, _, _, _⟩ := cells4 X1.out
  have _ := fz X1.out
  have _ := ltb X1.out
  obtain ⟨_, _, _, _⟩ := cells4 X2.out
  have _ := fz X2.out
  have _ := ltb X2.out
  go_wp2_with fail
  refine (sSpan_f _ _ _ _ _ _ X1.out h1.out).mono ?_
  rintro e w1 ⟨rfl, hg1⟩
  have x1_1 := hg1.keep X1.out
  have x1_2 := hg1.keep X2.out
  obtain ⟨_, _, _, _⟩ := cells4 x1_1
  have _ := fz x1_1
  have _ := ltb x1_1
  obtain ⟨_, _, _, _⟩ := cells4 x1_2
  have _ := fz x1_2
  have _ := ltb x1_2
  have X1_1 := hid x1_1; clear x1_1
  have X1_2 := hid x1_2; clear x1_2
  have G1 := hid (hg1)
  clear hg1
  go_wp2
  go_ret
  exact ⟨rfl, G1.out⟩
set_option maxRecDepth 20000 in
set_option maxHeartbeats 400000 in
theorem sSpans_n2 (a b c d a' b' c' d' : Int) (w : World) (k1 k2 : Nat) (X1 : Hid (w.heap[k1]? = some (.cells #[.int .i64 a, .int .i64 b, .int .i64 c, .int .i64 d] 38))) (X2 : Hid (w.heap[k2]? = some (.cells #[.int .i64 a', .int .i64 b', .int .i64 c', .int .i64 d'] 38))) (h1 : spB a b c d = true) (h2 : spB a' b' c' d' = false) :
    Calls Try.prog 71 #[.pointer (some ⟨k1, 0, none⟩), .pointer (some ⟨k2, 0, none⟩)] w fun e w' => e = .returned (.int .i64 1) ∧ Gr w w' := by
  have h1 := hid h1
  have h2 := hid h2
  go_enter Try.func71, Try.ntmps71
  obtain ⟨_, _, _, _⟩ := cells4 X1.out
  have _ := fz X1.out
  have _ := ltb X1.out
  obtain ⟨_, _, _, _⟩ := cells4 X2.out
  have _ := fz X2.out
  have _ := ltb X2.out
  go_wp2_with fail
  refine (sSpan_t _ _ _ _ _ _ X1.out h1.out).mono ?_
  rintro e w1 ⟨rfl, hg1⟩
  have x1_1 := hg1.keep X1.out
  have x1_2 := hg1.keep X2.out
  obtain ⟨_, _, _, _⟩ := cells4 x1_1
  have _ := fz x1_1
  have _ := ltb x1_1
  obtain ⟨_, _, _, _⟩ := cells4 x1_2
  have _ := fz x1_2
  have _ := ltb x1_2
  have X1_1 := hid x1_1; clear x1_1
  have X1_2 := hid x1_2; clear x1_2
  have G1 := hid (hg1)
  clear hg1
  go_wp2_with fail
  refine (sSpan_f _ _ _ _ _ _ X1_2.out h2.out).mono ?_
  rintro e w2 ⟨rfl, hg2⟩
  have x2_1 := hg2.keep X1_1.out
  have x2_2 := hg2.keep X1_2.out
  obtain ⟨_, _, _, _⟩ := cells4 x2_1
  have _ := fz x2_1
  have _ := ltb x2_1
  obtain ⟨_, _, _, _⟩ := cells4 x2_2
  have _ := fz x2_2
  have _ := ltb x2_2
  have X2_1 := hid x2_1; clear x2_1
  have X2_2 := hid x2_2; clear x2_2
  have G2 := hid (G1.out.trans hg2)
  clear hg2
  go_wp2
  go_ret
  exact ⟨rfl, G2.out⟩
set_option maxRecDepth 20000 in
set_option maxHeartbeats 400000 in
theorem sSpans_yes (a b c d a' b' c' d' : Int) (w : World) (k1 k2 : Nat) (X1 : Hid (w.heap[k1]? = some (.cells #[.int .i64 a, .int .i64 b, .int .i64 c, .int .i64 d] 38))) (X2 : Hid (w.heap[k2]? = some (.cells #[.int .i64 a', .int .i64 b', .int .i64 c', .int .i64 d'] 38))) (h1 : spB a b c d = true) (h2 : spB a' b' c' d' = true) :
    Calls Try.prog 71 #[.pointer (some ⟨k1, 0, none⟩), .pointer (some ⟨k2, 0, none⟩)] w fun e w' => e = .returned (.int .i64 0) ∧ Gr w w' := by
  have h1 := hid h1
  have h2 := hid h2
  go_enter Try.func71, Try.ntmps71
  obtain ⟨_, _, _, _⟩ := cells4 X1.out
  have _ := fz X1.out
  have _ := ltb X1.out
  obtain ⟨_, _, _, _⟩ := cells4 X2.out
  have _ := fz X2.out
  have _ := ltb X2.out
  go_wp2_with fail
  refine (sSpan_t _ _ _ _ _ _ X1.out h1.out).mono ?_
  rintro e w1 ⟨rfl, hg1⟩
  have x1_1 := hg1.keep X1.out
  have x1_2 := hg1.keep X2.out
  obtain ⟨_, _, _, _⟩ := cells4 x1_1
  have _ := fz x1_1
  have _ := ltb x1_1
  obtain ⟨_, _, _, _⟩ := cells4 x1_2
  have _ := fz x1_2
  have _ := ltb x1_2
  have X1_1 := hid x1_1; clear x1_1
  have X1_2 := hid x1_2; clear x1_2
  have G1 := hid (hg1)
  clear hg1
  go_wp2_with fail
  refine (sSpan_t _ _ _ _ _ _ X1_2.out h2.out).mono ?_
  rintro e w2 ⟨rfl, hg2⟩
  have x2_1 := hg2.keep X1_1.out
  have x2_2 := hg2.keep X1_2.out
  obtain ⟨_, _, _, _⟩ := cells4 x2_1
  have _ := fz x2_1
  have _ := ltb x2_1
  obtain ⟨_, _, _, _⟩ := cells4 x2_2
  have _ := fz x2_2
  have _ := ltb x2_2
  have X2_1 := hid x2_1; clear x2_1
  have X2_2 := hid x2_2; clear x2_2
  have G2 := hid (G1.out.trans hg2)
  clear hg2
  go_wp2
  go_ret
  exact ⟨rfl, G2.out⟩
theorem sSpans_no (a b c d a' b' c' d' : Int) (w : World) (k1 k2 : Nat) (X1 : Hid (w.heap[k1]? = some (.cells #[.int .i64 a, .int .i64 b, .int .i64 c, .int .i64 d] 38))) (X2 : Hid (w.heap[k2]? = some (.cells #[.int .i64 a', .int .i64 b', .int .i64 c', .int .i64 d'] 38))) (h : (spB a b c d && spB a' b' c' d') = false) :
    Calls Try.prog 71 #[.pointer (some ⟨k1, 0, none⟩), .pointer (some ⟨k2, 0, none⟩)] w fun e w' => e = .returned (.int .i64 1) ∧ Gr w w' := by
  cases h1 : spB a b c d with
  | false => exact sSpans_n1 _ _ _ _ _ _ _ _ w k1 k2 X1 X2 h1
  | true => exact sSpans_n2 _ _ _ _ _ _ _ _ w k1 k2 X1 X2 h1 (by simpa [h1] using h)
theorem okB_neg {p q : Int} (h : okB p q = true) : okB (-p) q = true := by
  rw [okB_iff] at *
  unfold Ok at *
  have e : Int.gcd (-p) q = Int.gcd p q := by simp [Int.gcd]
  omega
set_option maxRecDepth 20000 in
set_option maxHeartbeats 400000 in
theorem sagainst (a b c d a' b' c' d' : Int) (w : World) (h1 : okB a b = true) (h2 : okB c d = true) (h3 : okB a' b' = true) (h4 : okB c' d' = true) :
    Calls Try.prog 75 #[sp a b c d, sp a' b' c' d'] w fun e w' => e = .returned (bV (a*d'-c'*b) (b*d') (c*b'-a'*d) (d*b')) ∧ Gr w w' := by
  have n3 : okB (-a') b' = true := okB_neg h3
  have n4 : okB (-c') d' = true := okB_neg h4
  obtain ⟨e1, e2, e3, e4⟩ := okB_bd h3
  obtain ⟨f1, f2, f3, f4⟩ := okB_bd h4
  have h1 := hid h1; have h2 := hid h2; have n3 := hid n3; have n4 := hid n4
  clear h3 h4
  obtain ⟨p, q, p', q', c0, hf⟩ := bV_form (a*d'-c'*b) (b*d') (c*b'-a'*d) (d*b')
  rw [hf]
  rw [show a*d'-c'*b = a*d'+(-c')*b by rw [Int.neg_mul]; omega, show c*b'-a'*d = c*b'+(-a')*d by rw [Int.neg_mul]; omega] at hf
  have SS : ∀ w, Calls Try.prog 72 #[sp a b c d, sp (-c') d' (-a') b'] w fun e w' => e = .returned (.tuple #[sp p q p' q', .int .i64 c0]) ∧ Gr w w' := fun w => hf ▸ ssums _ _ _ _ _ _ _ _ w h1.out h2.out n4.out n3.out
  have SS := hid SS; clear hf
  have B := hid (And.intro e3 (And.intro e4 (And.intro f3 f4))); clear e1 e2 e3 e4 f1 f2 f3 f4
  go_enter Try.func75, Try.ntmps75
  go_wp2_with fail
  refine wp_reg0 11 (by kernel_rfl) (by kernel_rfl) ?_
  apply Exists.intro
  refine ⟨fun wb hb => ?_, ?_⟩
  · obtain ⟨y0, y1, y2, _, _⟩ := alloc3 (Gr.refl _)
    obtain ⟨_, _, _, _⟩ := hb.at4 y0
    obtain ⟨_, _, _, _⟩ := hb.at4 y1
    obtain ⟨_, _, _, _⟩ := hb.at4 y2
    clear y0 y1 y2
    simp only [headOps, List.contains, List.elem, reduceIte, Bool.false_eq_true]
    repeat (first | go_big_quiet_step (first | (go_at_call 103; with_reducible exact Calls.of_gr (sneg c' d' _ B.out.2.2.1 B.out.2.2.2)) | (go_at_call 103; with_reducible exact Calls.of_gr (sneg a' b' _ B.out.1 B.out.2.1)) | (go_at_call 72; exact Calls.of_gr (SS.out _))) | quiet_step (fail))
    exact wpQuiet_nil rfl
  intro w1 hg1
  obtain ⟨x1_0, x1_1, x1_2, hz1, g1⟩ := alloc3 hg1
  obtain ⟨_, _, _, _⟩ := cells4 x1_0
  have _ := fz x1_0
  have _ := ltb x1_0
  obtain ⟨_, _, _, _⟩ := cells4 x1_1
  have _ := fz x1_1
  have _ := ltb x1_1
  obtain ⟨_, _, _, _⟩ := cells4 x1_2
  have _ := fz x1_2
  have _ := ltb x1_2
  have X1_0 := hid x1_0; clear x1_0
  have X1_1 := hid x1_1; clear x1_1
  have X1_2 := hid x1_2; clear x1_2
  have G1 := hid (g1)
  clear hg1 g1
  go_wp2
  refine bodyPost_ret (v := .tuple #[sp p q p' q', .int .i64 c0]) (by simp [results, Try.results75, go_sem, *]) rfl ⟨rfl, ?_⟩
  exact ((((G1.out).setCell (by simp <;> omega) _).setCell (by simp <;> omega) _).setCell (by simp <;> omega) _).setCell (by simp <;> omega) _
set_option maxRecDepth 20000 in
set_option maxHeartbeats 400000 in
theorem sAddSpans_no (a b c d a' b' c' d' : Int) (w : World) (h : (spB a b c d && spB a' b' c' d') = false) :
    Calls Try.prog 36 #[sp a b c d, sp a' b' c' d'] w fun e w' => e = .returned (.tuple #[sp 0 0 0 0, .int .i64 1]) ∧ Gr w w' := by
  have h := hid h
  go_enter Try.func36, Try.ntmps36
  go_wp2_with fail
  refine (sSpans_no _ _ _ _ _ _ _ _ _ _ _ (hid (alloc3 (Gr.refl _)).1) (hid (alloc3 (Gr.refl _)).2.1) h.out).mono ?_
  rintro e w1 ⟨rfl, hg1⟩
  obtain ⟨x1_0, x1_1, x1_2, hz1, g1⟩ := alloc3 hg1
  obtain ⟨_, _, _, _⟩ := cells4 x1_0
  have _ := fz x1_0
  have _ := ltb x1_0
  obtain ⟨_, _, _, _⟩ := cells4 x1_1
  have _ := fz x1_1
  have _ := ltb x1_1
  obtain ⟨_, _, _, _⟩ := cells4 x1_2
  have _ := fz x1_2
  have _ := ltb x1_2
  have X1_0 := hid x1_0; clear x1_0
  have X1_1 := hid x1_1; clear x1_1
  have X1_2 := hid x1_2; clear x1_2
  have G1 := hid (g1)
  clear hg1 g1
  go_wp2
  refine bodyPost_ret (v := .tuple #[sp 0 0 0 0, .int .i64 1]) (by simp [results, Try.results36, go_sem, *]) rfl ⟨rfl, ?_⟩
  exact ((((G1.out).setCell (by simp <;> omega) _).setCell (by simp <;> omega) _).setCell (by simp <;> omega) _).setCell (by simp <;> omega) _
set_option maxRecDepth 20000 in
set_option maxHeartbeats 400000 in
theorem sAddSpans_yes (a b c d a' b' c' d' : Int) (w : World) (h1 : spB a b c d = true) (h2 : spB a' b' c' d' = true) :
    Calls Try.prog 36 #[sp a b c d, sp a' b' c' d'] w fun e w' => e = .returned (bV (a*b'+a'*b) (b*b') (c*d'+c'*d) (d*d')) ∧ Gr w w' := by
  obtain ⟨p, q, p', q', c0, hf⟩ := bV_form (a*b'+a'*b) (b*b') (c*d'+c'*d) (d*d')
  rw [hf]
  have F := hid hf; clear hf
  have h1 := hid h1; have h2 := hid h2
  go_enter Try.func36, Try.ntmps36
  go_wp2_with fail
  refine (sSpans_yes _ _ _ _ _ _ _ _ _ _ _ (hid (alloc3 (Gr.refl _)).1) (hid (alloc3 (Gr.refl _)).2.1) h1.out h2.out).mono ?_
  rintro e w1 ⟨rfl, hg1⟩
  obtain ⟨x1_0, x1_1, x1_2, hz1, g1⟩ := alloc3 hg1
  obtain ⟨_, _, _, _⟩ := cells4 x1_0
  have _ := fz x1_0
  have _ := ltb x1_0
  obtain ⟨_, _, _, _⟩ := cells4 x1_1
  have _ := fz x1_1
  have _ := ltb x1_1
  obtain ⟨_, _, _, _⟩ := cells4 x1_2
  have _ := fz x1_2
  have _ := ltb x1_2
  have X1_0 := hid x1_0; clear x1_0
  have X1_1 := hid x1_1; clear x1_1
  have X1_2 := hid x1_2; clear x1_2
  have G1 := hid (g1)
  clear hg1 g1
  go_wp2_with fail
  refine (ssums _ _ _ _ _ _ _ _ _ (spB_ok h1.out).1 (spB_ok h1.out).2.1 (spB_ok h2.out).1 (spB_ok h2.out).2.1).mono ?_
  rintro e w2 ⟨rfl, hg2⟩
  have x2_1 := hg2.keep X1_0.out
  have x2_2 := hg2.keep X1_1.out
  have x2_3 := hg2.keep X1_2.out
  obtain ⟨_, _, _, _⟩ := cells4 x2_1
  have _ := fz x2_1
  have _ := ltb x2_1
  obtain ⟨_, _, _, _⟩ := cells4 x2_2
  have _ := fz x2_2
  have _ := ltb x2_2
  obtain ⟨_, _, _, _⟩ := cells4 x2_3
  have _ := fz x2_3
  have _ := ltb x2_3
  have X2_1 := hid x2_1; clear x2_1
  have X2_2 := hid x2_2; clear x2_2
  have X2_3 := hid x2_3; clear x2_3
  have G2 := hid (G1.out.trans hg2)
  clear hg2
  rw [F.out]
  go_wp2
  refine bodyPost_ret (v := .tuple #[sp p q p' q', .int .i64 c0]) (by simp [results, Try.results36, go_sem, *]) rfl ⟨rfl, ?_⟩
  exact ((((G2.out).setCell (by simp <;> omega) _).setCell (by simp <;> omega) _).setCell (by simp <;> omega) _).setCell (by simp <;> omega) _
set_option maxRecDepth 20000 in
set_option maxHeartbeats 400000 in
theorem sSubSpans_no (a b c d a' b' c' d' : Int) (w : World) (h : (spB a b c d && spB a' b' c' d') = false) :
    Calls Try.prog 38 #[sp a b c d, sp a' b' c' d'] w fun e w' => e = .returned (.tuple #[sp 0 0 0 0, .int .i64 1]) ∧ Gr w w' := by
  have h := hid h
  go_enter Try.func38, Try.ntmps38
  go_wp2_with fail
  refine (sSpans_no _ _ _ _ _ _ _ _ _ _ _ (hid (alloc3 (Gr.refl _)).1) (hid (alloc3 (Gr.refl _)).2.1) h.out).mono ?_
  rintro e w1 ⟨rfl, hg1⟩
  obtain ⟨x1_0, x1_1, x1_2, hz1, g1⟩ := alloc3 hg1
  obtain ⟨_, _, _, _⟩ := cells4 x1_0
  have _ := fz x1_0
  have _ := ltb x1_0
  obtain ⟨_, _, _, _⟩ := cells4 x1_1
  have _ := fz x1_1
  have _ := ltb x1_1
  obtain ⟨_, _, _, _⟩ := cells4 x1_2
  have _ := fz x1_2
  have _ := ltb x1_2
  have X1_0 := hid x1_0; clear x1_0
  have X1_1 := hid x1_1; clear x1_1
  have X1_2 := hid x1_2; clear x1_2
  have G1 := hid (g1)
  clear hg1 g1
  go_wp2
  refine bodyPost_ret (v := .tuple #[sp 0 0 0 0, .int .i64 1]) (by simp [results, Try.results38, go_sem, *]) rfl ⟨rfl, ?_⟩
  exact ((((G1.out).setCell (by simp <;> omega) _).setCell (by simp <;> omega) _).setCell (by simp <;> omega) _).setCell (by simp <;> omega) _
set_option maxRecDepth 20000 in
set_option maxHeartbeats 400000 in
theorem sSubSpans_yes (a b c d a' b' c' d' : Int) (w : World) (h1 : spB a b c d = true) (h2 : spB a' b' c' d' = true) :
    Calls Try.prog 38 #[sp a b c d, sp a' b' c' d'] w fun e w' => e = .returned (bV (a*d'-c'*b) (b*d') (c*b'-a'*d) (d*b')) ∧ Gr w w' := by
  obtain ⟨p, q, p', q', c0, hf⟩ := bV_form (a*d'-c'*b) (b*d') (c*b'-a'*d) (d*b')
  rw [hf]
  have F := hid hf; clear hf
  have h1 := hid h1; have h2 := hid h2
  go_enter Try.func38, Try.ntmps38
  go_wp2_with fail
  refine (sSpans_yes _ _ _ _ _ _ _ _ _ _ _ (hid (alloc3 (Gr.refl _)).1) (hid (alloc3 (Gr.refl _)).2.1) h1.out h2.out).mono ?_
  rintro e w1 ⟨rfl, hg1⟩
  obtain ⟨x1_0, x1_1, x1_2, hz1, g1⟩ := alloc3 hg1
  obtain ⟨_, _, _, _⟩ := cells4 x1_0
  have _ := fz x1_0
  have _ := ltb x1_0
  obtain ⟨_, _, _, _⟩ := cells4 x1_1
  have _ := fz x1_1
  have _ := ltb x1_1
  obtain ⟨_, _, _, _⟩ := cells4 x1_2
  have _ := fz x1_2
  have _ := ltb x1_2
  have X1_0 := hid x1_0; clear x1_0
  have X1_1 := hid x1_1; clear x1_1
  have X1_2 := hid x1_2; clear x1_2
  have G1 := hid (g1)
  clear hg1 g1
  go_wp2_with fail
  refine (sagainst _ _ _ _ _ _ _ _ _ (spB_ok h1.out).1 (spB_ok h1.out).2.1 (spB_ok h2.out).1 (spB_ok h2.out).2.1).mono ?_
  rintro e w2 ⟨rfl, hg2⟩
  have x2_1 := hg2.keep X1_0.out
  have x2_2 := hg2.keep X1_1.out
  have x2_3 := hg2.keep X1_2.out
  obtain ⟨_, _, _, _⟩ := cells4 x2_1
  have _ := fz x2_1
  have _ := ltb x2_1
  obtain ⟨_, _, _, _⟩ := cells4 x2_2
  have _ := fz x2_2
  have _ := ltb x2_2
  obtain ⟨_, _, _, _⟩ := cells4 x2_3
  have _ := fz x2_3
  have _ := ltb x2_3
  have X2_1 := hid x2_1; clear x2_1
  have X2_2 := hid x2_2; clear x2_2
  have X2_3 := hid x2_3; clear x2_3
  have G2 := hid (G1.out.trans hg2)
  clear hg2
  rw [F.out]
  go_wp2
  refine bodyPost_ret (v := .tuple #[sp p q p' q', .int .i64 c0]) (by simp [results, Try.results38, go_sem, *]) rfl ⟨rfl, ?_⟩
  exact ((((G2.out).setCell (by simp <;> omega) _).setCell (by simp <;> omega) _).setCell (by simp <;> omega) _).setCell (by simp <;> omega) _
set_option maxRecDepth 20000 in
set_option maxHeartbeats 400000 in
theorem jplus_ok (a b c d a' b' c' d' : Int) (w : World) (k1 k2 k3 : Nat) (T : TypeId) (X1 : Hid (w.heap[k1]? = some (.cells #[.func (.func 74) #[] #[]] T))) (X2 : Hid (w.heap[k2]? = some (.cells #[.int .i64 a, .int .i64 b, .int .i64 c, .int .i64 d] 38))) (X3 : Hid (w.heap[k3]? = some (.cells #[.int .i64 a', .int .i64 b', .int .i64 c', .int .i64 d'] 38))) (h1 : okB a b = true) (h2 : okB c d = true) (h3 : okB a' b' = true) (h4 : okB c' d' = true) (g1 : okB (redP (a*b'+a'*b) (b*b')) (redQ (a*b'+a'*b) (b*b')) = true) (g2 : okB (redP (c*d'+c'*d) (d*d')) (redQ (c*d'+c'*d) (d*d')) = true) :
    Calls Try.prog 105 #[.pointer (some ⟨k1, 0, none⟩), .pointer (some ⟨k2, 0, none⟩), .pointer (some ⟨k3, 0, none⟩)] w fun e w' => e = .returned (sp (redP (a*b'+a'*b) (b*b')) (redQ (a*b'+a'*b) (b*b')) (redP (c*d'+c'*d) (d*d')) (redQ (c*d'+c'*d) (d*d'))) ∧ Gr w w' := by
  have h1 := hid h1; have h2 := hid h2; have h3 := hid h3; have h4 := hid h4
  have g1 := hid g1; have g2 := hid g2
  go_enter Try.func105, Try.ntmps105
  have _ := cells1 X1.out
  have _ := fz X1.out
  have _ := ltb X1.out
  obtain ⟨_, _, _, _⟩ := cells4 X2.out
  have _ := fz X2.out
  have _ := ltb X2.out
  obtain ⟨_, _, _, _⟩ := cells4 X3.out
  have _ := fz X3.out
  have _ := ltb X3.out
  go_wp2_with fail
  refine (splus_ok _ _ _ _ _ _ _ _ _ h1.out h2.out h3.out h4.out g1.out g2.out).mono ?_
  rintro e w1 ⟨rfl, hg1⟩
  obtain ⟨x1_0, hz1, g1⟩ := alloc1 hg1
  have x1_1 := g1.keep X1.out
  have x1_2 := g1.keep X2.out
  have x1_3 := g1.keep X3.out
  obtain ⟨_, _, _, _⟩ := cells4 x1_0
  have _ := fz x1_0
  have _ := ltb x1_0
  have _ := cells1 x1_1
  have _ := fz x1_1
  have _ := ltb x1_1
  obtain ⟨_, _, _, _⟩ := cells4 x1_2
  have _ := fz x1_2
  have _ := ltb x1_2
  obtain ⟨_, _, _, _⟩ := cells4 x1_3
  have _ := fz x1_3
  have _ := ltb x1_3
  have X1_0 := hid x1_0; clear x1_0
  have X1_1 := hid x1_1; clear x1_1
  have X1_2 := hid x1_2; clear x1_2
  have X1_3 := hid x1_3; clear x1_3
  have G1 := hid (g1)
  clear hg1 g1
  go_wp2
  refine bodyPost_ret (v := sp (redP (a*b'+a'*b) (b*b')) (redQ (a*b'+a'*b) (b*b')) (redP (c*d'+c'*d) (d*d')) (redQ (c*d'+c'*d) (d*d'))) (by simp [results, Try.results105, go_sem, *]) rfl ⟨rfl, ?_⟩
  exact ((((G1.out).setCell (by simp <;> omega) _).setCell (by simp <;> omega) _).setCell (by simp <;> omega) _).setCell (by simp <;> omega) _
set_option maxRecDepth 20000 in
set_option maxHeartbeats 400000 in
theorem jplus_b1 (a b c d a' b' c' d' : Int) (w : World) (k1 k2 k3 : Nat) (T : TypeId) (X1 : Hid (w.heap[k1]? = some (.cells #[.func (.func 74) #[] #[]] T))) (X2 : Hid (w.heap[k2]? = some (.cells #[.int .i64 a, .int .i64 b, .int .i64 c, .int .i64 d] 38))) (X3 : Hid (w.heap[k3]? = some (.cells #[.int .i64 a', .int .i64 b', .int .i64 c', .int .i64 d'] 38))) (h1 : okB a b = true) (h2 : okB c d = true) (h3 : okB a' b' = true) (h4 : okB c' d' = true) (g1 : okB (redP (a*b'+a'*b) (b*b')) (redQ (a*b'+a'*b) (b*b')) = false) :
    Calls Try.prog 105 #[.pointer (some ⟨k1, 0, none⟩), .pointer (some ⟨k2, 0, none⟩), .pointer (some ⟨k3, 0, none⟩)] w fun e w' => (∃ x y, e = .panicked [{ v := .iface 101 (fr x y), recovered := false }]) ∧ Gr w w' := by
  have h1 := hid h1; have h2 := hid h2; have h3 := hid h3; have h4 := hid h4
  have g1 := hid g1
  go_enter Try.func105, Try.ntmps105
  have _ := cells1 X1.out
  have _ := fz X1.out
  have _ := ltb X1.out
  obtain ⟨_, _, _, _⟩ := cells4 X2.out
  have _ := fz X2.out
  have _ := ltb X2.out
  obtain ⟨_, _, _, _⟩ := cells4 X3.out
  have _ := fz X3.out
  have _ := ltb X3.out
  go_wp2_with fail
  refine (splus_b1 _ _ _ _ _ _ _ _ _ h1.out h2.out h3.out h4.out g1.out).mono ?_
  rintro e w1 ⟨⟨xp, yp, rfl⟩, hg1⟩
  obtain ⟨x1_0, hz1, g1⟩ := alloc1 hg1
  have x1_1 := g1.keep X1.out
  have x1_2 := g1.keep X2.out
  have x1_3 := g1.keep X3.out
  obtain ⟨_, _, _, _⟩ := cells4 x1_0
  have _ := fz x1_0
  have _ := ltb x1_0
  have _ := cells1 x1_1
  have _ := fz x1_1
  have _ := ltb x1_1
  obtain ⟨_, _, _, _⟩ := cells4 x1_2
  have _ := fz x1_2
  have _ := ltb x1_2
  obtain ⟨_, _, _, _⟩ := cells4 x1_3
  have _ := fz x1_3
  have _ := ltb x1_3
  have X1_0 := hid x1_0; clear x1_0
  have X1_1 := hid x1_1; clear x1_1
  have X1_2 := hid x1_2; clear x1_2
  have X1_3 := hid x1_3; clear x1_3
  have G1 := hid (g1)
  clear hg1 g1
  exact ⟨rfl, ⟨xp, yp, rfl⟩, G1.out⟩
set_option maxRecDepth 20000 in
set_option maxHeartbeats 400000 in
theorem jplus_b2 (a b c d a' b' c' d' : Int) (w : World) (k1 k2 k3 : Nat) (T : TypeId) (X1 : Hid (w.heap[k1]? = some (.cells #[.func (.func 74) #[] #[]] T))) (X2 : Hid (w.heap[k2]? = some (.cells #[.int .i64 a, .int .i64 b, .int .i64 c, .int .i64 d] 38))) (X3 : Hid (w.heap[k3]? = some (.cells #[.int .i64 a', .int .i64 b', .int .i64 c', .int .i64 d'] 38))) (h1 : okB a b = true) (h2 : okB c d = true) (h3 : okB a' b' = true) (h4 : okB c' d' = true) (g1 : okB (redP (a*b'+a'*b) (b*b')) (redQ (a*b'+a'*b) (b*b')) = true) (g2 : okB (redP (c*d'+c'*d) (d*d')) (redQ (c*d'+c'*d) (d*d')) = false) :
    Calls Try.prog 105 #[.pointer (some ⟨k1, 0, none⟩), .pointer (some ⟨k2, 0, none⟩), .pointer (some ⟨k3, 0, none⟩)] w fun e w' => (∃ x y, e = .panicked [{ v := .iface 101 (fr x y), recovered := false }]) ∧ Gr w w' := by
  have h1 := hid h1; have h2 := hid h2; have h3 := hid h3; have h4 := hid h4
  have g1 := hid g1; have g2 := hid g2
  go_enter Try.func105, Try.ntmps105
  have _ := cells1 X1.out
  have _ := fz X1.out
  have _ := ltb X1.out
  obtain ⟨_, _, _, _⟩ := cells4 X2.out
  have _ := fz X2.out
  have _ := ltb X2.out
  obtain ⟨_, _, _, _⟩ := cells4 X3.out
  have _ := fz X3.out
  have _ := ltb X3.out
  go_wp2_with fail
  refine (splus_b2 _ _ _ _ _ _ _ _ _ h1.out h2.out h3.out h4.out g1.out g2.out).mono ?_
  rintro e w1 ⟨⟨xp, yp, rfl⟩, hg1⟩
  obtain ⟨x1_0, hz1, g1⟩ := alloc1 hg1
  have x1_1 := g1.keep X1.out
  have x1_2 := g1.keep X2.out
  have x1_3 := g1.keep X3.out
  obtain ⟨_, _, _, _⟩ := cells4 x1_0
  have _ := fz x1_0
  have _ := ltb x1_0
  have _ := cells1 x1_1
  have _ := fz x1_1
  have _ := ltb x1_1
  obtain ⟨_, _, _, _⟩ := cells4 x1_2
  have _ := fz x1_2
  have _ := ltb x1_2
  obtain ⟨_, _, _, _⟩ := cells4 x1_3
  have _ := fz x1_3
  have _ := ltb x1_3
  have X1_0 := hid x1_0; clear x1_0
  have X1_1 := hid x1_1; clear x1_1
  have X1_2 := hid x1_2; clear x1_2
  have X1_3 := hid x1_3; clear x1_3
  have G1 := hid (g1)
  clear hg1 g1
  exact ⟨rfl, ⟨xp, yp, rfl⟩, G1.out⟩
set_option maxRecDepth 20000 in
set_option maxHeartbeats 400000 in
theorem ofplus_n1 (a b c d a' b' c' d' : Int) (w : World) (h1 : spB a b c d = false) :
    Calls Try.prog 73 #[sp a b c d, sp a' b' c' d', .func (.func 74) #[] #[]] w fun e w' => e = .returned (.tuple #[sp 0 0 0 0, .int .i64 1]) ∧ Gr w w' := by
  have h1 := hid h1
  go_enter Try.func73, Try.ntmps73
  go_wp2_with fail
  refine (iSpan_f _ _ _ _ _ h1.out).mono ?_
  rintro e w1 ⟨rfl, hg1⟩
  obtain ⟨x1_0, x1_1, x1_2, x1_3, hz1, g1⟩ := alloc4 hg1
  obtain ⟨_, _, _, _⟩ := cells4 x1_0
  have _ := fz x1_0
  have _ := ltb x1_0
  obtain ⟨_, _, _, _⟩ := cells4 x1_1
  have _ := fz x1_1
  have _ := ltb x1_1
  have _ := cells1 x1_2
  have _ := fz x1_2
  have _ := ltb x1_2
  obtain ⟨_, _, _, _⟩ := cells4 x1_3
  have _ := fz x1_3
  have _ := ltb x1_3
  have X1_0 := hid x1_0; clear x1_0
  have X1_1 := hid x1_1; clear x1_1
  have X1_2 := hid x1_2; clear x1_2
  have X1_3 := hid x1_3; clear x1_3
  have G1 := hid (g1)
  clear hg1 g1
  go_wp2
  refine bodyPost_ret (v := .tuple #[sp 0 0 0 0, .int .i64 1]) (by simp [results, Try.results73, go_sem, *]) rfl ⟨rfl, ?_⟩
  exact ((((G1.out).setCell (by simp <;> omega) _).setCell (by simp <;> omega) _).setCell (by simp <;> omega) _).setCell (by simp <;> omega) _
set_option maxRecDepth 20000 in
set_option maxHeartbeats 400000 in
theorem ofplus_n2 (a b c d a' b' c' d' : Int) (w : World) (h1 : spB a b c d = true) (h2 : spB a' b' c' d' = false) :
    Calls Try.prog 73 #[sp a b c d, sp a' b' c' d', .func (.func 74) #[] #[]] w fun e w' => e = .returned (.tuple #[sp 0 0 0 0, .int .i64 1]) ∧ Gr w w' := by
  have h1 := hid h1
  have h2 := hid h2
  go_enter Try.func73, Try.ntmps73
  go_wp2_with fail
  refine (iSpan_t _ _ _ _ _ h1.out).mono ?_
  rintro e w1 ⟨rfl, hg1⟩
  obtain ⟨x1_0, x1_1, x1_2, x1_3, hz1, g1⟩ := alloc4 hg1
  obtain ⟨_, _, _, _⟩ := cells4 x1_0
  have _ := fz x1_0
  have _ := ltb x1_0
  obtain ⟨_, _, _, _⟩ := cells4 x1_1
  have _ := fz x1_1
  have _ := ltb x1_1
  have _ := cells1 x1_2
  have _ := fz x1_2
  have _ := ltb x1_2
  obtain ⟨_, _, _, _⟩ := cells4 x1_3
  have _ := fz x1_3
  have _ := ltb x1_3
  have X1_0 := hid x1_0; clear x1_0
  have X1_1 := hid x1_1; clear x1_1
  have X1_2 := hid x1_2; clear x1_2
  have X1_3 := hid x1_3; clear x1_3
  have G1 := hid (g1)
  clear hg1 g1
  go_wp2_with fail
  refine (iSpan_f _ _ _ _ _ h2.out).mono ?_
  rintro e w2 ⟨rfl, hg2⟩
  have x2_1 := hg2.keep X1_0.out
  have x2_2 := hg2.keep X1_1.out
  have x2_3 := hg2.keep X1_2.out
  have x2_4 := hg2.keep X1_3.out
  obtain ⟨_, _, _, _⟩ := cells4 x2_1
  have _ := fz x2_1
  have _ := ltb x2_1
  obtain ⟨_, _, _, _⟩ := cells4 x2_2
  have _ := fz x2_2
  have _ := ltb x2_2
  have _ := cells1 x2_3
  have _ := fz x2_3
  have _ := ltb x2_3
  obtain ⟨_, _, _, _⟩ := cells4 x2_4
  have _ := fz x2_4
  have _ := ltb x2_4
  have X2_1 := hid x2_1; clear x2_1
  have X2_2 := hid x2_2; clear x2_2
  have X2_3 := hid x2_3; clear x2_3
  have X2_4 := hid x2_4; clear x2_4
  have G2 := hid (G1.out.trans hg2)
  clear hg2
  go_wp2
  refine bodyPost_ret (v := .tuple #[sp 0 0 0 0, .int .i64 1]) (by simp [results, Try.results73, go_sem, *]) rfl ⟨rfl, ?_⟩
  exact ((((G2.out).setCell (by simp <;> omega) _).setCell (by simp <;> omega) _).setCell (by simp <;> omega) _).setCell (by simp <;> omega) _
set_option maxRecDepth 20000 in
set_option maxHeartbeats 400000 in
theorem ofplus_yes (a b c d a' b' c' d' : Int) (w : World) (h1 : spB a b c d = true) (h2 : spB a' b' c' d' = true) :
    Calls Try.prog 73 #[sp a b c d, sp a' b' c' d', .func (.func 74) #[] #[]] w fun e w' => e = .returned (bV (a*b'+a'*b) (b*b') (c*d'+c'*d) (d*d')) ∧ Gr w w' := by
  obtain ⟨p, q, p', q', c0, hf⟩ := bV_form (a*b'+a'*b) (b*b') (c*d'+c'*d) (d*d')
  rw [hf]
  have F := hid hf; clear hf
  have O1 := hid (spB_ok h1); have O2 := hid (spB_ok h2)
  have h1 := hid h1
  have h2 := hid h2
  go_enter Try.func73, Try.ntmps73
  go_wp2_with fail
  refine (iSpan_t _ _ _ _ _ h1.out).mono ?_
  rintro e w1 ⟨rfl, hg1⟩
  obtain ⟨x1_0, x1_1, x1_2, x1_3, hz1, g1⟩ := alloc4 hg1
  obtain ⟨_, _, _, _⟩ := cells4 x1_0
  have _ := fz x1_0
  have _ := ltb x1_0
  obtain ⟨_, _, _, _⟩ := cells4 x1_1
  have _ := fz x1_1
  have _ := ltb x1_1
  have _ := cells1 x1_2
  have _ := fz x1_2
  have _ := ltb x1_2
  obtain ⟨_, _, _, _⟩ := cells4 x1_3
  have _ := fz x1_3
  have _ := ltb x1_3
  have X1_0 := hid x1_0; clear x1_0
  have X1_1 := hid x1_1; clear x1_1
  have X1_2 := hid x1_2; clear x1_2
  have X1_3 := hid x1_3; clear x1_3
  have G1 := hid (g1)
  clear hg1 g1
  go_wp2_with fail
  refine (iSpan_t _ _ _ _ _ h2.out).mono ?_
  rintro e w2 ⟨rfl, hg2⟩
  have x2_1 := hg2.keep X1_0.out
  have x2_2 := hg2.keep X1_1.out
  have x2_3 := hg2.keep X1_2.out
  have x2_4 := hg2.keep X1_3.out
  obtain ⟨_, _, _, _⟩ := cells4 x2_1
  have _ := fz x2_1
  have _ := ltb x2_1
  obtain ⟨_, _, _, _⟩ := cells4 x2_2
  have _ := fz x2_2
  have _ := ltb x2_2
  have _ := cells1 x2_3
  have _ := fz x2_3
  have _ := ltb x2_3
  obtain ⟨_, _, _, _⟩ := cells4 x2_4
  have _ := fz x2_4
  have _ := ltb x2_4
  have X2_1 := hid x2_1; clear x2_1
  have X2_2 := hid x2_2; clear x2_2
  have X2_3 := hid x2_3; clear x2_3
  have X2_4 := hid x2_4; clear x2_4
  have G2 := hid (G1.out.trans hg2)
  clear hg2
  go_wp2_with fail
  refine (told_bV 105 _ (a*b'+a'*b) (b*b') (c*d'+c'*d) (d*d') _ (fun _ => by kernel_rfl) (fun g1 g2 w' hg' => jplus_ok _ _ _ _ _ _ _ _ w' _ _ _ _ (hid (hg'.keep X2_3.out)) (hid (hg'.keep X2_1.out)) (hid (hg'.keep X2_2.out)) O1.out.1 O1.out.2.1 O2.out.1 O2.out.2.1 g1 g2) (fun g1 w' hg' => jplus_b1 _ _ _ _ _ _ _ _ w' _ _ _ _ (hid (hg'.keep X2_3.out)) (hid (hg'.keep X2_1.out)) (hid (hg'.keep X2_2.out)) O1.out.1 O1.out.2.1 O2.out.1 O2.out.2.1 g1) (fun g1 g2 w' hg' => jplus_b2 _ _ _ _ _ _ _ _ w' _ _ _ _ (hid (hg'.keep X2_3.out)) (hid (hg'.keep X2_1.out)) (hid (hg'.keep X2_2.out)) O1.out.1 O1.out.2.1 O2.out.1 O2.out.2.1 g1 g2)).mono ?_
  rintro e w3 ⟨rfl, hg3⟩
  have x3_1 := hg3.keep X2_1.out
  have x3_2 := hg3.keep X2_2.out
  have x3_3 := hg3.keep X2_3.out
  have x3_4 := hg3.keep X2_4.out
  obtain ⟨_, _, _, _⟩ := cells4 x3_1
  have _ := fz x3_1
  have _ := ltb x3_1
  obtain ⟨_, _, _, _⟩ := cells4 x3_2
  have _ := fz x3_2
  have _ := ltb x3_2
  have _ := cells1 x3_3
  have _ := fz x3_3
  have _ := ltb x3_3
  obtain ⟨_, _, _, _⟩ := cells4 x3_4
  have _ := fz x3_4
  have _ := ltb x3_4
  have X3_1 := hid x3_1; clear x3_1
  have X3_2 := hid x3_2; clear x3_2
  have X3_3 := hid x3_3; clear x3_3
  have X3_4 := hid x3_4; clear x3_4
  have G3 := hid (G2.out.trans hg3)
  clear hg3
  rw [F.out]
  go_wp2
  refine bodyPost_ret (v := .tuple #[sp p q p' q', .int .i64 c0]) (by simp [results, Try.results73, go_sem, *]) rfl ⟨rfl, ?_⟩
  exact ((((G3.out).setCell (by simp <;> omega) _).setCell (by simp <;> omega) _).setCell (by simp <;> omega) _).setCell (by simp <;> omega) _
set_option maxRecDepth 20000 in
set_option maxHeartbeats 400000 in
theorem iAddSpans (a b c d a' b' c' d' : Int) (P Q R S C : Int) (w : World) (hi : ∀ w, Calls Try.prog 73 #[sp a b c d, sp a' b' c' d', .func (.func 74) #[] #[]] w fun e w' => e = .returned (.tuple #[sp P Q R S, .int .i64 C]) ∧ Gr w w') :
    Calls Try.prog 37 #[sp a b c d, sp a' b' c' d'] w fun e w' => e = .returned (.tuple #[sp P Q R S, .int .i64 C]) ∧ Gr w w' := by
  have Hi := hid hi; clear hi
  go_enter Try.func37, Try.ntmps37
  go_wp2_with fail
  refine (Hi.out _).mono ?_
  rintro e w1 ⟨rfl, hg1⟩
  obtain ⟨x1_0, x1_1, x1_2, hz1, g1⟩ := alloc3 hg1
  obtain ⟨_, _, _, _⟩ := cells4 x1_0
  have _ := fz x1_0
  have _ := ltb x1_0
  obtain ⟨_, _, _, _⟩ := cells4 x1_1
  have _ := fz x1_1
  have _ := ltb x1_1
  obtain ⟨_, _, _, _⟩ := cells4 x1_2
  have _ := fz x1_2
  have _ := ltb x1_2
  have X1_0 := hid x1_0; clear x1_0
  have X1_1 := hid x1_1; clear x1_1
  have X1_2 := hid x1_2; clear x1_2
  have G1 := hid (g1)
  clear hg1 g1
  go_wp2
  refine bodyPost_ret (v := .tuple #[sp P Q R S, .int .i64 C]) (by simp [results, Try.results37, go_sem, *]) rfl ⟨rfl, ?_⟩
  exact ((((G1.out).setCell (by simp <;> omega) _).setCell (by simp <;> omega) _).setCell (by simp <;> omega) _).setCell (by simp <;> omega) _
theorem bothAddSpans (a b c d a' b' c' d' : Int) : ∃ P Q R S C : Int, (∀ w, Calls Try.prog 36 #[sp a b c d, sp a' b' c' d'] w fun e w' => e = .returned (.tuple #[sp P Q R S, .int .i64 C]) ∧ Gr w w') ∧
    (∀ w, Calls Try.prog 37 #[sp a b c d, sp a' b' c' d'] w fun e w' => e = .returned (.tuple #[sp P Q R S, .int .i64 C]) ∧ Gr w w') := by
  cases h1 : spB a b c d with
  | false => exact ⟨0, 0, 0, 0, 1, fun w => sAddSpans_no _ _ _ _ _ _ _ _ w (by rw [h1]; rfl), fun w => iAddSpans _ _ _ _ _ _ _ _ _ _ _ _ _ w fun w => ofplus_n1 _ _ _ _ _ _ _ _ w h1⟩
  | true =>
    cases h2 : spB a' b' c' d' with
    | false => exact ⟨0, 0, 0, 0, 1, fun w => sAddSpans_no _ _ _ _ _ _ _ _ w (by rw [h1, h2]; rfl), fun w => iAddSpans _ _ _ _ _ _ _ _ _ _ _ _ _ w fun w => ofplus_n2 _ _ _ _ _ _ _ _ w h1 h2⟩
    | true =>
      obtain ⟨p, q, p', q', c0, hf⟩ := bV_form (a*b'+a'*b) (b*b') (c*d'+c'*d) (d*d')
      exact ⟨p, q, p', q', c0, fun w => hf ▸ sAddSpans_yes _ _ _ _ _ _ _ _ w h1 h2, fun w => iAddSpans _ _ _ _ _ _ _ _ _ _ _ _ _ w fun w => hf ▸ ofplus_yes _ _ _ _ _ _ _ _ w h1 h2⟩
set_option maxRecDepth 20000 in
set_option maxHeartbeats 400000 in
theorem jminus_ok (a b c d a' b' c' d' : Int) (w : World) (k1 k2 k3 : Nat) (T : TypeId) (X1 : Hid (w.heap[k1]? = some (.cells #[.func (.func 76) #[] #[]] T))) (X2 : Hid (w.heap[k2]? = some (.cells #[.int .i64 a, .int .i64 b, .int .i64 c, .int .i64 d] 38))) (X3 : Hid (w.heap[k3]? = some (.cells #[.int .i64 a', .int .i64 b', .int .i64 c', .int .i64 d'] 38))) (h1 : okB a b = true) (h2 : okB c d = true) (h3 : okB a' b' = true) (h4 : okB c' d' = true) (g1 : okB (redP (a*d'-c'*b) (b*d')) (redQ (a*d'-c'*b) (b*d')) = true) (g2 : okB (redP (c*b'-a'*d) (d*b')) (redQ (c*b'-a'*d) (d*b')) = true) :
    Calls Try.prog 105 #[.pointer (some ⟨k1, 0, none⟩), .pointer (some ⟨k2, 0, none⟩), .pointer (some ⟨k3, 0, none⟩)] w fun e w' => e = .returned (sp (redP (a*d'-c'*b) (b*d')) (redQ (a*d'-c'*b) (b*d')) (redP (c*b'-a'*d) (d*b')) (redQ (c*b'-a'*d) (d*b'))) ∧ Gr w w' := by
  have h1 := hid h1; have h2 := hid h2; have h3 := hid h3; have h4 := hid h4
  have g1 := hid g1; have g2 := hid g2
  go_enter Try.func105, Try.ntmps105
  have _ := cells1 X1.out
  have _ := fz X1.out
  have _ := ltb X1.out
  obtain ⟨_, _, _, _⟩ := cells4 X2.out
  have _ := fz X2.out
  have _ := ltb X2.out
  obtain ⟨_, _, _, _⟩ := cells4 X3.out
  have _ := fz X3.out
  have _ := ltb X3.out
  go_wp2_with fail
  refine (sminus_ok _ _ _ _ _ _ _ _ _ h1.out h2.out h3.out h4.out g1.out g2.out).mono ?_
  rintro e w1 ⟨rfl, hg1⟩
  obtain ⟨x1_0, hz1, g1⟩ := alloc1 hg1
  have x1_1 := g1.keep X1.out
  have x1_2 := g1.keep X2.out
  have x1_3 := g1.keep X3.out
  obtain ⟨_, _, _, _⟩ := cells4 x1_0
  have _ := fz x1_0
  have _ := ltb x1_0
  have _ := cells1 x1_1
  have _ := fz x1_1
  have _ := ltb x1_1
  obtain ⟨_, _, _, _⟩ := cells4 x1_2
  have _ := fz x1_2
  have _ := ltb x1_2
  obtain ⟨_, _, _, _⟩ := cells4 x1_3
  have _ := fz x1_3
  have _ := ltb x1_3
  have X1_0 := hid x1_0; clear x1_0
  have X1_1 := hid x1_1; clear x1_1
  have X1_2 := hid x1_2; clear x1_2
  have X1_3 := hid x1_3; clear x1_3
  have G1 := hid (g1)
  clear hg1 g1
  go_wp2
  refine bodyPost_ret (v := sp (redP (a*d'-c'*b) (b*d')) (redQ (a*d'-c'*b) (b*d')) (redP (c*b'-a'*d) (d*b')) (redQ (c*b'-a'*d) (d*b'))) (by simp [results, Try.results105, go_sem, *]) rfl ⟨rfl, ?_⟩
  exact ((((G1.out).setCell (by simp <;> omega) _).setCell (by simp <;> omega) _).setCell (by simp <;> omega) _).setCell (by simp <;> omega) _
set_option maxRecDepth 20000 in
set_option maxHeartbeats 400000 in
theorem jminus_b1 (a b c d a' b' c' d' : Int) (w : World) (k1 k2 k3 : Nat) (T : TypeId) (X1 : Hid (w.heap[k1]? = some (.cells #[.func (.func 76) #[] #[]] T))) (X2 : Hid (w.heap[k2]? = some (.cells #[.int .i64 a, .int .i64 b, .int .i64 c, .int .i64 d] 38))) (X3 : Hid (w.heap[k3]? = some (.cells #[.int .i64 a', .int .i64 b', .int .i64 c', .int .i64 d'] 38))) (h1 : okB a b = true) (h2 : okB c d = true) (h3 : okB a' b' = true) (h4 : okB c' d' = true) (g1 : okB (redP (a*d'-c'*b) (b*d')) (redQ (a*d'-c'*b) (b*d')) = false) :
    Calls Try.prog 105 #[.pointer (some ⟨k1, 0, none⟩), .pointer (some ⟨k2, 0, none⟩), .pointer (some ⟨k3, 0, none⟩)] w fun e w' => (∃ x y, e = .panicked [{ v := .iface 101 (fr x y), recovered := false }]) ∧ Gr w w' := by
  have h1 := hid h1; have h2 := hid h2; have h3 := hid h3; have h4 := hid h4
  have g1 := hid g1
  go_enter Try.func105, Try.ntmps105
  have _ := cells1 X1.out
  have _ := fz X1.out
  have _ := ltb X1.out
  obtain ⟨_, _, _, _⟩ := cells4 X2.out
  have _ := fz X2.out
  have _ := ltb X2.out
  obtain ⟨_, _, _, _⟩ := cells4 X3.out
  have _ := fz X3.out
  have _ := ltb X3.out
  go_wp2_with fail
  refine (sminus_b1 _ _ _ _ _ _ _ _ _ h1.out h2.out h3.out h4.out g1.out).mono ?_
  rintro e w1 ⟨⟨xp, yp, rfl⟩, hg1⟩
  obtain ⟨x1_0, hz1, g1⟩ := alloc1 hg1
  have x1_1 := g1.keep X1.out
  have x1_2 := g1.keep X2.out
  have x1_3 := g1.keep X3.out
  obtain ⟨_, _, _, _⟩ := cells4 x1_0
  have _ := fz x1_0
  have _ := ltb x1_0
  have _ := cells1 x1_1
  have _ := fz x1_1
  have _ := ltb x1_1
  obtain ⟨_, _, _, _⟩ := cells4 x1_2
  have _ := fz x1_2
  have _ := ltb x1_2
  obtain ⟨_, _, _, _⟩ := cells4 x1_3
  have _ := fz x1_3
  have _ := ltb x1_3
  have X1_0 := hid x1_0; clear x1_0
  have X1_1 := hid x1_1; clear x1_1
  have X1_2 := hid x1_2; clear x1_2
  have X1_3 := hid x1_3; clear x1_3
  have G1 := hid (g1)
  clear hg1 g1
  exact ⟨rfl, ⟨xp, yp, rfl⟩, G1.out⟩
set_option maxRecDepth 20000 in
set_option maxHeartbeats 400000 in
theorem jminus_b2 (a b c d a' b' c' d' : Int) (w : World) (k1 k2 k3 : Nat) (T : TypeId) (X1 : Hid (w.heap[k1]? = some (.cells #[.func (.func 76) #[] #[]] T))) (X2 : Hid (w.heap[k2]? = some (.cells #[.int .i64 a, .int .i64 b, .int .i64 c, .int .i64 d] 38))) (X3 : Hid (w.heap[k3]? = some (.cells #[.int .i64 a', .int .i64 b', .int .i64 c', .int .i64 d'] 38))) (h1 : okB a b = true) (h2 : okB c d = true) (h3 : okB a' b' = true) (h4 : okB c' d' = true) (g1 : okB (redP (a*d'-c'*b) (b*d')) (redQ (a*d'-c'*b) (b*d')) = true) (g2 : okB (redP (c*b'-a'*d) (d*b')) (redQ (c*b'-a'*d) (d*b')) = false) :
    Calls Try.prog 105 #[.pointer (some ⟨k1, 0, none⟩), .pointer (some ⟨k2, 0, none⟩), .pointer (some ⟨k3, 0, none⟩)] w fun e w' => (∃ x y, e = .panicked [{ v := .iface 101 (fr x y), recovered := false }]) ∧ Gr w w' := by
  have h1 := hid h1; have h2 := hid h2; have h3 := hid h3; have h4 := hid h4
  have g1 := hid g1; have g2 := hid g2
  go_enter Try.func105, Try.ntmps105
  have _ := cells1 X1.out
  have _ := fz X1.out
  have _ := ltb X1.out
  obtain ⟨_, _, _, _⟩ := cells4 X2.out
  have _ := fz X2.out
  have _ := ltb X2.out
  obtain ⟨_, _, _, _⟩ := cells4 X3.out
  have _ := fz X3.out
  have _ := ltb X3.out
  go_wp2_with fail
  refine (sminus_b2 _ _ _ _ _ _ _ _ _ h1.out h2.out h3.out h4.out g1.out g2.out).mono ?_
  rintro e w1 ⟨⟨xp, yp, rfl⟩, hg1⟩
  obtain ⟨x1_0, hz1, g1⟩ := alloc1 hg1
  have x1_1 := g1.keep X1.out
  have x1_2 := g1.keep X2.out
  have x1_3 := g1.keep X3.out
  obtain ⟨_, _, _, _⟩ := cells4 x1_0
  have _ := fz x1_0
  have _ := ltb x1_0
  have _ := cells1 x1_1
  have _ := fz x1_1
  have _ := ltb x1_1
  obtain ⟨_, _, _, _⟩ := cells4 x1_2
  have _ := fz x1_2
  have _ := ltb x1_2
  obtain ⟨_, _, _, _⟩ := cells4 x1_3
  have _ := fz x1_3
  have _ := ltb x1_3
  have X1_0 := hid x1_0; clear x1_0
  have X1_1 := hid x1_1; clear x1_1
  have X1_2 := hid x1_2; clear x1_2
  have X1_3 := hid x1_3; clear x1_3
  have G1 := hid (g1)
  clear hg1 g1
  exact ⟨rfl, ⟨xp, yp, rfl⟩, G1.out⟩
set_option maxRecDepth 20000 in
set_option maxHeartbeats 400000 in
theorem ofminus_n1 (a b c d a' b' c' d' : Int) (w : World) (h1 : spB a b c d = false) :
    Calls Try.prog 73 #[sp a b c d, sp a' b' c' d', .func (.func 76) #[] #[]] w fun e w' => e = .returned (.tuple #[sp 0 0 0 0, .int .i64 1]) ∧ Gr w w' := by
  have h1 := hid h1
  go_enter Try.func73, Try.ntmps73
  go_wp2_with fail
  refine (iSpan_f _ _ _ _ _ h1.out).mono ?_
  rintro e w1 ⟨rfl, hg1⟩
  obtain ⟨x1_0, x1_1, x1_2, x1_3, hz1, g1⟩ := alloc4 hg1
  obtain ⟨_, _, _, _⟩ := cells4 x1_0
  have _ := fz x1_0
  have _ := ltb x1_0
  obtain ⟨_, _, _, _⟩ := cells4 x1_1
  have _ := fz x1_1
  have _ := ltb x1_1
  have _ := cells1 x1_2
  have _ := fz x1_2
  have _ := ltb x1_2
  obtain ⟨_, _, _, _⟩ := cells4 x1_3
  have _ := fz x1_3
  have _ := ltb x1_3
  have X1_0 := hid x1_0; clear x1_0
  have X1_1 := hid x1_1; clear x1_1
  have X1_2 := hid x1_2; clear x1_2
  have X1_3 := hid x1_3; clear x1_3
  have G1 := hid (g1)
  clear hg1 g1
  go_wp2
  refine bodyPost_ret (v := .tuple #[sp 0 0 0 0, .int .i64 1]) (by simp [results, Try.results73, go_sem, *]) rfl ⟨rfl, ?_⟩
  exact ((((G1.out).setCell (by simp <;> omega) _).setCell (by simp <;> omega) _).setCell (by simp <;> omega) _).setCell (by simp <;> omega) _
set_option maxRecDepth 20000 in
set_option maxHeartbeats 400000 in
theorem ofminus_n2 (a b c d a' b' c' d' : Int) (w : World) (h1 : spB a b c d = true) (h2 : spB a' b' c' d' = false) :
    Calls Try.prog 73 #[sp a b c d, sp a' b' c' d', .func (.func 76) #[] #[]] w fun e w' => e = .returned (.tuple #[sp 0 0 0 0, .int .i64 1]) ∧ Gr w w' := by
  have h1 := hid h1
  have h2 := hid h2
  go_enter Try.func73, Try.ntmps73
  go_wp2_with fail
  refine (iSpan_t _ _ _ _ _ h1.out).mono ?_
  rintro e w1 ⟨rfl, hg1⟩
  obtain ⟨x1_0, x1_1, x1_2, x1_3, hz1, g1⟩ := alloc4 hg1
  obtain ⟨_, _, _, _⟩ := cells4 x1_0
  have _ := fz x1_0
  have _ := ltb x1_0
  obtain ⟨_, _, _, _⟩ := cells4 x1_1
  have _ := fz x1_1
  have _ := ltb x1_1
  have _ := cells1 x1_2
  have _ := fz x1_2
  have _ := ltb x1_2
  obtain ⟨_, _, _, _⟩ := cells4 x1_3
  have _ := fz x1_3
  have _ := ltb x1_3
  have X1_0 := hid x1_0; clear x1_0
  have X1_1 := hid x1_1; clear x1_1
  have X1_2 := hid x1_2; clear x1_2
  have X1_3 := hid x1_3; clear x1_3
  have G1 := hid (g1)
  clear hg1 g1
  go_wp2_with fail
  refine (iSpan_f _ _ _ _ _ h2.out).mono ?_
  rintro e w2 ⟨rfl, hg2⟩
  have x2_1 := hg2.keep X1_0.out
  have x2_2 := hg2.keep X1_1.out
  have x2_3 := hg2.keep X1_2.out
  have x2_4 := hg2.keep X1_3.out
  obtain ⟨_, _, _, _⟩ := cells4 x2_1
  have _ := fz x2_1
  have _ := ltb x2_1
  obtain ⟨_, _, _, _⟩ := cells4 x2_2
  have _ := fz x2_2
  have _ := ltb x2_2
  have _ := cells1 x2_3
  have _ := fz x2_3
  have _ := ltb x2_3
  obtain ⟨_, _, _, _⟩ := cells4 x2_4
  have _ := fz x2_4
  have _ := ltb x2_4
  have X2_1 := hid x2_1; clear x2_1
  have X2_2 := hid x2_2; clear x2_2
  have X2_3 := hid x2_3; clear x2_3
  have X2_4 := hid x2_4; clear x2_4
  have G2 := hid (G1.out.trans hg2)
  clear hg2
  go_wp2
  refine bodyPost_ret (v := .tuple #[sp 0 0 0 0, .int .i64 1]) (by simp [results, Try.results73, go_sem, *]) rfl ⟨rfl, ?_⟩
  exact ((((G2.out).setCell (by simp <;> omega) _).setCell (by simp <;> omega) _).setCell (by simp <;> omega) _).setCell (by simp <;> omega) _
set_option maxRecDepth 20000 in
set_option maxHeartbeats 400000 in
theorem ofminus_yes (a b c d a' b' c' d' : Int) (w : World) (h1 : spB a b c d = true) (h2 : spB a' b' c' d' = true) :
    Calls Try.prog 73 #[sp a b c d, sp a' b' c' d', .func (.func 76) #[] #[]] w fun e w' => e = .returned (bV (a*d'-c'*b) (b*d') (c*b'-a'*d) (d*b')) ∧ Gr w w' := by
  obtain ⟨p, q, p', q', c0, hf⟩ := bV_form (a*d'-c'*b) (b*d') (c*b'-a'*d) (d*b')
  rw [hf]
  have F := hid hf; clear hf
  have O1 := hid (spB_ok h1); have O2 := hid (spB_ok h2)
  have h1 := hid h1
  have h2 := hid h2
  go_enter Try.func73, Try.ntmps73
  go_wp2_with fail
  refine (iSpan_t _ _ _ _ _ h1.out).mono ?_
  rintro e w1 ⟨rfl, hg1⟩
  obtain ⟨x1_0, x1_1, x1_2, x1_3, hz1, g1⟩ := alloc4 hg1
  obtain ⟨_, _, _, _⟩ := cells4 x1_0
  have _ := fz x1_0
  have _ := ltb x1_0
  obtain ⟨_, _, _, _⟩ := cells4 x1_1
  have _ := fz x1_1
  have _ := ltb x1_1
  have _ := cells1 x1_2
  have _ := fz x1_2
  have _ := ltb x1_2
  obtain ⟨_, _, _, _⟩ := cells4 x1_3
  have _ := fz x1_3
  have _ := ltb x1_3
  have X1_0 := hid x1_0; clear x1_0
  have X1_1 := hid x1_1; clear x1_1
  have X1_2 := hid x1_2; clear x1_2
  have X1_3 := hid x1_3; clear x1_3
  have G1 := hid (g1)
  clear hg1 g1
  go_wp2_with fail
  refine (iSpan_t _ _ _ _ _ h2.out).mono ?_
  rintro e w2 ⟨rfl, hg2⟩
  have x2_1 := hg2.keep X1_0.out
  have x2_2 := hg2.keep X1_1.out
  have x2_3 := hg2.keep X1_2.out
  have x2_4 := hg2.keep X1_3.out
  obtain ⟨_, _, _, _⟩ := cells4 x2_1
  have _ := fz x2_1
  have _ := ltb x2_1
  obtain ⟨_, _, _, _⟩ := cells4 x2_2
  have _ := fz x2_2
  have _ := ltb x2_2
  have _ := cells1 x2_3
  have _ := fz x2_3
  have _ := ltb x2_3
  obtain ⟨_, _, _, _⟩ := cells4 x2_4
  have _ := fz x2_4
  have _ := ltb x2_4
  have X2_1 := hid x2_1; clear x2_1
  have X2_2 := hid x2_2; clear x2_2
  have X2_3 := hid x2_3; clear x2_3
  have X2_4 := hid x2_4; clear x2_4
  have G2 := hid (G1.out.trans hg2)
  clear hg2
  go_wp2_with fail
  refine (told_bV 105 _ (a*d'-c'*b) (b*d') (c*b'-a'*d) (d*b') _ (fun _ => by kernel_rfl) (fun g1 g2 w' hg' => jminus_ok _ _ _ _ _ _ _ _ w' _ _ _ _ (hid (hg'.keep X2_3.out)) (hid (hg'.keep X2_1.out)) (hid (hg'.keep X2_2.out)) O1.out.1 O1.out.2.1 O2.out.1 O2.out.2.1 g1 g2) (fun g1 w' hg' => jminus_b1 _ _ _ _ _ _ _ _ w' _ _ _ _ (hid (hg'.keep X2_3.out)) (hid (hg'.keep X2_1.out)) (hid (hg'.keep X2_2.out)) O1.out.1 O1.out.2.1 O2.out.1 O2.out.2.1 g1) (fun g1 g2 w' hg' => jminus_b2 _ _ _ _ _ _ _ _ w' _ _ _ _ (hid (hg'.keep X2_3.out)) (hid (hg'.keep X2_1.out)) (hid (hg'.keep X2_2.out)) O1.out.1 O1.out.2.1 O2.out.1 O2.out.2.1 g1 g2)).mono ?_
  rintro e w3 ⟨rfl, hg3⟩
  have x3_1 := hg3.keep X2_1.out
  have x3_2 := hg3.keep X2_2.out
  have x3_3 := hg3.keep X2_3.out
  have x3_4 := hg3.keep X2_4.out
  obtain ⟨_, _, _, _⟩ := cells4 x3_1
  have _ := fz x3_1
  have _ := ltb x3_1
  obtain ⟨_, _, _, _⟩ := cells4 x3_2
  have _ := fz x3_2
  have _ := ltb x3_2
  have _ := cells1 x3_3
  have _ := fz x3_3
  have _ := ltb x3_3
  obtain ⟨_, _, _, _⟩ := cells4 x3_4
  have _ := fz x3_4
  have _ := ltb x3_4
  have X3_1 := hid x3_1; clear x3_1
  have X3_2 := hid x3_2; clear x3_2
  have X3_3 := hid x3_3; clear x3_3
  have X3_4 := hid x3_4; clear x3_4
  have G3 := hid (G2.out.trans hg3)
  clear hg3
  rw [F.out]
  go_wp2
  refine bodyPost_ret (v := .tuple #[sp p q p' q', .int .i64 c0]) (by simp [results, Try.results73, go_sem, *]) rfl ⟨rfl, ?_⟩
  exact ((((G3.out).setCell (by simp <;> omega) _).setCell (by simp <;> omega) _).setCell (by simp <;> omega) _).setCell (by simp <;> omega) _
set_option maxRecDepth 20000 in
set_option maxHeartbeats 400000 in
theorem iSubSpans (a b c d a' b' c' d' : Int) (P Q R S C : Int) (w : World) (hi : ∀ w, Calls Try.prog 73 #[sp a b c d, sp a' b' c' d', .func (.func 76) #[] #[]] w fun e w' => e = .returned (.tuple #[sp P Q R S, .int .i64 C]) ∧ Gr w w') :
    Calls Try.prog 39 #[sp a b c d, sp a' b' c' d'] w fun e w' => e = .returned (.tuple #[sp P Q R S, .int .i64 C]) ∧ Gr w w' := by
  have Hi := hid hi; clear hi
  go_enter Try.func39, Try.ntmps39
  go_wp2_with fail
  refine (Hi.out _).mono ?_
  rintro e w1 ⟨rfl, hg1⟩
  obtain ⟨x1_0, x1_1, x1_2, hz1, g1⟩ := alloc3 hg1
  obtain ⟨_, _, _, _⟩ := cells4 x1_0
  have _ := fz x1_0
  have _ := ltb x1_0
  obtain ⟨_, _, _, _⟩ := cells4 x1_1
  have _ := fz x1_1
  have _ := ltb x1_1
  obtain ⟨_, _, _, _⟩ := cells4 x1_2
  have _ := fz x1_2
  have _ := ltb x1_2
  have X1_0 := hid x1_0; clear x1_0
  have X1_1 := hid x1_1; clear x1_1
  have X1_2 := hid x1_2; clear x1_2
  have G1 := hid (g1)
  clear hg1 g1
  go_wp2
  refine bodyPost_ret (v := .tuple #[sp P Q R S, .int .i64 C]) (by simp [results, Try.results39, go_sem, *]) rfl ⟨rfl, ?_⟩
  exact ((((G1.out).setCell (by simp <;> omega) _).setCell (by simp <;> omega) _).setCell (by simp <;> omega) _).setCell (by simp <;> omega) _
theorem bothSubSpans (a b c d a' b' c' d' : Int) : ∃ P Q R S C : Int, (∀ w, Calls Try.prog 38 #[sp a b c d, sp a' b' c' d'] w fun e w' => e = .returned (.tuple #[sp P Q R S, .int .i64 C]) ∧ Gr w w') ∧
    (∀ w, Calls Try.prog 39 #[sp a b c d, sp a' b' c' d'] w fun e w' => e = .returned (.tuple #[sp P Q R S, .int .i64 C]) ∧ Gr w w') := by
  cases h1 : spB a b c d with
  | false => exact ⟨0, 0, 0, 0, 1, fun w => sSubSpans_no _ _ _ _ _ _ _ _ w (by rw [h1]; rfl), fun w => iSubSpans _ _ _ _ _ _ _ _ _ _ _ _ _ w fun w => ofminus_n1 _ _ _ _ _ _ _ _ w h1⟩
  | true =>
    cases h2 : spB a' b' c' d' with
    | false => exact ⟨0, 0, 0, 0, 1, fun w => sSubSpans_no _ _ _ _ _ _ _ _ w (by rw [h1, h2]; rfl), fun w => iSubSpans _ _ _ _ _ _ _ _ _ _ _ _ _ w fun w => ofminus_n2 _ _ _ _ _ _ _ _ w h1 h2⟩
    | true =>
      obtain ⟨p, q, p', q', c0, hf⟩ := bV_form (a*d'-c'*b) (b*d') (c*b'-a'*d) (d*b')
      exact ⟨p, q, p', q', c0, fun w => hf ▸ sSubSpans_yes _ _ _ _ _ _ _ _ w h1 h2, fun w => iSubSpans _ _ _ _ _ _ _ _ _ _ _ _ _ w fun w => hf ▸ ofminus_yes _ _ _ _ _ _ _ _ w h1 h2⟩
end Go.Proofs.Ytenjljecnabajaa
