/- WALKS: WidthOf and InSpan, of the program and of the reference. -/
import Derived.Test.YtenjljecnabajaaT
namespace Go.Proofs.Ytenjljecnabajaa
open Go.RowKit Go.Sort

theorem sok_t (p q : Int) (w : World) (h : okB p q = true) : Calls Try.prog 66 #[fr p q] w fun e w' => e = .returned (.bool true) ∧ Gr w w' :=
  (sok_any p q w).mono fun e w' ⟨he, hg⟩ => ⟨by rw [he, h], hg⟩
theorem sok_f (p q : Int) (w : World) (h : okB p q = false) : Calls Try.prog 66 #[fr p q] w fun e w' => e = .returned (.bool false) ∧ Gr w w' :=
  (sok_any p q w).mono fun e w' ⟨he, hg⟩ => ⟨by rw [he, h], hg⟩
/-- What is told of a fraction that is calculated. -/
theorem told_rV (f : Nat) (cap : Array Value) (n d : Int) (w : World) (hen : ∀ w, (callFunc f cap).run Try.prog w = .ok (.enter f cap) w)
    (h0 : okB (redP n d) (redQ n d) = true → ∀ w', Gr w w' → Calls Try.prog f cap w' fun e w'' => e = .returned (fr (redP n d) (redQ n d)) ∧ Gr w' w'')
    (h1 : okB (redP n d) (redQ n d) = false → ∀ w', Gr w w' → Calls Try.prog f cap w' fun e w'' => (∃ x y, e = .panicked [{ v := .iface 101 (fr x y), recovered := false }]) ∧ Gr w' w'') :
    Calls Try.prog 69 #[.func (.func f) #[] cap] w fun e w' => e = .returned (.tuple #[fr (rP n d) (rQ n d), .int .i64 (rC n d)]) ∧ Gr w w' := by
  unfold rP rQ rC
  cases k1 : okB (redP n d) (redQ n d) with
  | false => exact told_great_F f cap w hen (h1 k1)
  | true => exact told_ok_F f cap _ _ w hen (h0 k1)
set_option maxRecDepth 20000 in
set_option maxHeartbeats 400000 in
theorem cwidth_ok (a b c d : Int) (w : World) (k1 : Nat) (X1 : Hid (w.heap[k1]? = some (.cells #[.int .i64 a, .int .i64 b, .int .i64 c, .int .i64 d] 38))) (h1 : okB a b = true) (h2 : okB c d = true) (g1 : okB (redP (c*b-a*d) (d*b)) (redQ (c*b-a*d) (d*b)) = true) :
    Calls Try.prog 70 #[.pointer (some ⟨k1, 0, none⟩)] w fun e w' => e = .returned (fr (redP (c*b-a*d) (d*b)) (redQ (c*b-a*d) (d*b))) ∧ Gr w w' := by
  have h1 := hid h1; have h2 := hid h2; have g1 := hid g1
  go_enter Try.func70, Try.ntmps70
  obtain ⟨_, _, _, _⟩ := cells4 X1.out
  have _ := fz X1.out
  have _ := ltb X1.out
  go_wp2_with fail
  refine (minus_yes _ _ _ _ _ h2.out h1.out g1.out).mono ?_
  rintro e w1 ⟨rfl, hg1⟩
  obtain ⟨x1_0, hz1, g1⟩ := alloc1 hg1
  have x1_1 := g1.keep X1.out
  obtain ⟨_, _⟩ := cells2 x1_0
  have _ := fz x1_0
  have _ := ltb x1_0
  obtain ⟨_, _, _, _⟩ := cells4 x1_1
  have _ := fz x1_1
  have _ := ltb x1_1
  have X1_0 := hid x1_0; clear x1_0
  have X1_1 := hid x1_1; clear x1_1
  have G1 := hid (g1)
  clear hg1 g1
  go_wp2
  refine bodyPost_ret (v := fr (redP (c*b-a*d) (d*b)) (redQ (c*b-a*d) (d*b))) (by simp [results, Try.results70, go_sem, *]) rfl ⟨rfl, ?_⟩
  exact ((G1.out).setCell (by simp <;> omega) _).setCell (by simp <;> omega) _
set_option maxRecDepth 20000 in
set_option maxHeartbeats 400000 in
theorem cwidth_bad (a b c d : Int) (w : World) (k1 : Nat) (X1 : Hid (w.heap[k1]? = some (.cells #[.int .i64 a, .int .i64 b, .int .i64 c, .int .i64 d] 38))) (h1 : okB a b = true) (h2 : okB c d = true) (g1 : okB (redP (c*b-a*d) (d*b)) (redQ (c*b-a*d) (d*b)) = false) :
    Calls Try.prog 70 #[.pointer (some ⟨k1, 0, none⟩)] w fun e w' => (∃ x y, e = .panicked [{ v := .iface 101 (fr x y), recovered := false }]) ∧ Gr w w' := by
  have h1 := hid h1; have h2 := hid h2; have g1 := hid g1
  go_enter Try.func70, Try.ntmps70
  obtain ⟨_, _, _, _⟩ := cells4 X1.out
  have _ := fz X1.out
  have _ := ltb X1.out
  go_wp2_with fail
  refine (minus_no _ _ _ _ _ h2.out h1.out g1.out).mono ?_
  rintro e w1 ⟨⟨xp, yp, rfl⟩, hg1⟩
  obtain ⟨x1_0, hz1, g1⟩ := alloc1 hg1
  have x1_1 := g1.keep X1.out
  obtain ⟨_, _⟩ := cells2 x1_0
  have _ := fz x1_0
  have _ := ltb x1_0
  obtain ⟨_, _, _, _⟩ := cells4 x1_1
  have _ := fz x1_1
  have _ := ltb x1_1
  have X1_0 := hid x1_0; clear x1_0
  have X1_1 := hid x1_1; clear x1_1
  have G1 := hid (g1)
  clear hg1 g1
  exact ⟨rfl, ⟨xp, yp, rfl⟩, G1.out⟩
set_option maxRecDepth 20000 in
set_option maxHeartbeats 400000 in
theorem iWidth_no (a b c d : Int) (w : World) (h : spB a b c d = false) :
    Calls Try.prog 35 #[sp a b c d] w fun e w' => e = .returned (.tuple #[fr 0 0, .int .i64 1]) ∧ Gr w w' := by
  have h := hid h
  go_enter Try.func35, Try.ntmps35
  go_wp2_with fail
  refine (iSpan_f _ _ _ _ _ h.out).mono ?_
  rintro e w1 ⟨rfl, hg1⟩
  obtain ⟨x1_0, x1_1, hz1, g1⟩ := alloc2 hg1
  obtain ⟨_, _, _, _⟩ := cells4 x1_0
  have _ := fz x1_0
  have _ := ltb x1_0
  obtain ⟨_, _⟩ := cells2 x1_1
  have _ := fz x1_1
  have _ := ltb x1_1
  have X1_0 := hid x1_0; clear x1_0
  have X1_1 := hid x1_1; clear x1_1
  have G1 := hid (g1)
  clear hg1 g1
  go_wp2
  refine bodyPost_ret (v := .tuple #[fr 0 0, .int .i64 1]) (by simp [results, Try.results35, go_sem, *]) rfl ⟨rfl, ?_⟩
  exact ((G1.out).setCell (by simp <;> omega) _).setCell (by simp <;> omega) _
set_option maxRecDepth 20000 in
set_option maxHeartbeats 400000 in
theorem iWidth_yes (a b c d : Int) (w : World) (h : spB a b c d = true) :
    Calls Try.prog 35 #[sp a b c d] w fun e w' => e = .returned (.tuple #[fr (rP (c*b-a*d) (d*b)) (rQ (c*b-a*d) (d*b)), .int .i64 (rC (c*b-a*d) (d*b))]) ∧ Gr w w' := by
  have O := hid (spB_ok h)
  have h := hid h
  go_enter Try.func35, Try.ntmps35
  go_wp2_with fail
  refine (iSpan_t _ _ _ _ _ h.out).mono ?_
  rintro e w1 ⟨rfl, hg1⟩
  obtain ⟨x1_0, x1_1, hz1, g1⟩ := alloc2 hg1
  obtain ⟨_, _, _, _⟩ := cells4 x1_0
  have _ := fz x1_0
  have _ := ltb x1_0
  obtain ⟨_, _⟩ := cells2 x1_1
  have _ := fz x1_1
  have _ := ltb x1_1
  have X1_0 := hid x1_0; clear x1_0
  have X1_1 := hid x1_1; clear x1_1
  have G1 := hid (g1)
  clear hg1 g1
  go_wp2_with fail
  refine (told_rV 70 _ (c*b-a*d) (d*b) _ (fun _ => by kernel_rfl) (fun g1 w' hg' => cwidth_ok _ _ _ _ w' _ (hid (hg'.keep X1_0.out)) O.out.1 O.out.2.1 g1) (fun g1 w' hg' => cwidth_bad _ _ _ _ w' _ (hid (hg'.keep X1_0.out)) O.out.1 O.out.2.1 g1)).mono ?_
  rintro e w2 ⟨rfl, hg2⟩
  have x2_1 := hg2.keep X1_0.out
  have x2_2 := hg2.keep X1_1.out
  obtain ⟨_, _, _, _⟩ := cells4 x2_1
  have _ := fz x2_1
  have _ := ltb x2_1
  obtain ⟨_, _⟩ := cells2 x2_2
  have _ := fz x2_2
  have _ := ltb x2_2
  have X2_1 := hid x2_1; clear x2_1
  have X2_2 := hid x2_2; clear x2_2
  have G2 := hid (G1.out.trans hg2)
  clear hg2
  go_wp2
  refine bodyPost_ret (v := .tuple #[fr (rP (c*b-a*d) (d*b)) (rQ (c*b-a*d) (d*b)), .int .i64 (rC (c*b-a*d) (d*b))]) (by simp [results, Try.results35, go_sem, *]) rfl ⟨rfl, ?_⟩
  exact ((G2.out).setCell (by simp <;> omega) _).setCell (by simp <;> omega) _
set_option maxRecDepth 20000 in
set_option maxHeartbeats 400000 in
theorem sWidth_no (a b c d : Int) (w : World) (h : spB a b c d = false) :
    Calls Try.prog 34 #[sp a b c d] w fun e w' => e = .returned (.tuple #[fr 0 0, .int .i64 1]) ∧ Gr w w' := by
  have h := hid h
  go_enter Try.func34, Try.ntmps34
  go_wp2_with fail
  refine (sSpan_f _ _ _ _ _ _ (alloc2 (Gr.refl _)).1 h.out).mono ?_
  rintro e w1 ⟨rfl, hg1⟩
  obtain ⟨x1_0, x1_1, hz1, g1⟩ := alloc2 hg1
  obtain ⟨_, _, _, _⟩ := cells4 x1_0
  have _ := fz x1_0
  have _ := ltb x1_0
  obtain ⟨_, _⟩ := cells2 x1_1
  have _ := fz x1_1
  have _ := ltb x1_1
  have X1_0 := hid x1_0; clear x1_0
  have X1_1 := hid x1_1; clear x1_1
  have G1 := hid (g1)
  clear hg1 g1
  go_wp2
  refine bodyPost_ret (v := .tuple #[fr 0 0, .int .i64 1]) (by simp [results, Try.results34, go_sem, *]) rfl ⟨rfl, ?_⟩
  exact ((G1.out).setCell (by simp <;> omega) _).setCell (by simp <;> omega) _
set_option maxRecDepth 20000 in
set_option maxHeartbeats 400000 in
theorem sWidth_yes (a b c d : Int) (w : World) (h : spB a b c d = true) :
    Calls Try.prog 34 #[sp a b c d] w fun e w' => e = .returned (.tuple #[fr (rP (c*b-a*d) (d*b)) (rQ (c*b-a*d) (d*b)), .int .i64 (rC (c*b-a*d) (d*b))]) ∧ Gr w w' := by
  obtain ⟨b1, b2, b3, b4⟩ := okB_bd (spB_ok h).1
  obtain ⟨d1, d2, d3, d4⟩ := okB_bd (spB_ok h).2.1
  have h := hid h
  go_enter Try.func34, Try.ntmps34
  go_wp2_with fail
  refine (sSpan_t _ _ _ _ _ _ (alloc2 (Gr.refl _)).1 h.out).mono ?_
  rintro e w1 ⟨rfl, hg1⟩
  obtain ⟨x1_0, x1_1, hz1, g1⟩ := alloc2 hg1
  obtain ⟨_, _, _, _⟩ := cells4 x1_0
  have _ := fz x1_0
  have _ := ltb x1_0
  obtain ⟨_, _⟩ := cells2 x1_1
  have _ := fz x1_1
  have _ := ltb x1_1
  have X1_0 := hid x1_0; clear x1_0
  have X1_1 := hid x1_1; clear x1_1
  have G1 := hid (g1)
  clear hg1 g1
  go_wp2_with fail
  refine (sl01Sub _ _ _ _ _ d1 d2 d3 d4 b1 b2 b3 b4).mono ?_
  rintro e w2 ⟨rfl, hg2⟩
  have x2_1 := hg2.keep X1_0.out
  have x2_2 := hg2.keep X1_1.out
  obtain ⟨_, _, _, _⟩ := cells4 x2_1
  have _ := fz x2_1
  have _ := ltb x2_1
  obtain ⟨_, _⟩ := cells2 x2_2
  have _ := fz x2_2
  have _ := ltb x2_2
  have X2_1 := hid x2_1; clear x2_1
  have X2_2 := hid x2_2; clear x2_2
  have G2 := hid (G1.out.trans hg2)
  clear hg2
  go_wp2
  refine bodyPost_ret (v := .tuple #[fr (rP (c*b-a*d) (d*b)) (rQ (c*b-a*d) (d*b)), .int .i64 (rC (c*b-a*d) (d*b))]) (by simp [results, Try.results34, go_sem, *]) rfl ⟨rfl, ?_⟩
  exact ((G2.out).setCell (by simp <;> omega) _).setCell (by simp <;> omega) _
theorem bothWidthOf (a b c d : Int) : ∃ P Q C : Int, (∀ w, Calls Try.prog 34 #[sp a b c d] w fun e w' => e = .returned (.tuple #[fr P Q, .int .i64 C]) ∧ Gr w w') ∧
    (∀ w, Calls Try.prog 35 #[sp a b c d] w fun e w' => e = .returned (.tuple #[fr P Q, .int .i64 C]) ∧ Gr w w') := by
  cases h : spB a b c d with
  | false => exact ⟨0, 0, 1, fun w => sWidth_no _ _ _ _ w h, fun w => iWidth_no _ _ _ _ w h⟩
  | true => exact ⟨_, _, _, fun w => sWidth_yes _ _ _ _ w h, fun w => iWidth_yes _ _ _ _ w h⟩

/-! InSpan -/
def liesB (a b c d p q : Int) : Bool := decide (cmpI a b p q ≤ 0) && decide (cmpI p q c d ≤ 0)
set_option maxRecDepth 20000 in
set_option maxHeartbeats 400000 in
theorem sIn_n (a b c d p q : Int) (w : World) (k1 : Nat) (X1 : Hid (w.heap[k1]? = some (.cells #[.int .i64 a, .int .i64 b, .int .i64 c, .int .i64 d] 38))) (h1 : okB a b = true) (_h2 : okB c d = true) (h3 : okB p q = true) (hd : decide (cmpI a b p q ≤ 0) = false) :
    Calls Try.prog 67 #[.pointer (some ⟨k1, 0, none⟩), fr p q] w fun e w' => e = .returned (.bool false) ∧ Gr w w' := by
  obtain ⟨b1, b2, b3, b4⟩ := okB_bd h1
  obtain ⟨e1, e2, e3, e4⟩ := okB_bd h3
  have Q0 := hid (mul_bd (x := a) (y := q) b3 b4 (by omega) e2)
  have Q1 := hid (mul_bd (x := p) (y := b) e3 e4 (by omega) b2)
  have HD := hid hd
  clear h1 h3 hd b1 b2 b3 b4 e1 e2 e3 e4
  go_enter Try.func67, Try.ntmps67
  obtain ⟨_, _, _, _⟩ := cells4 X1.out
  have _ := fz X1.out
  have _ := ltb X1.out
  go_wp2_with fail
  refine wp_reg0 16 (by kernel_rfl) (by kernel_rfl) ?_
  apply Exists.intro
  refine ⟨fun wb hb => ?_, ?_⟩
  · obtain ⟨y0, _, _⟩ := alloc1 (Gr.refl _)
    obtain ⟨_, _⟩ := hb.at2 y0
    clear y0
    obtain ⟨_, _, _, _⟩ := hb.at4 (((Gr.refl _).al _).keep X1.out)
    have hd := HD.out
    simp only [headOps, List.contains, List.elem, reduceIte, Bool.false_eq_true]
    repeat (first | go_big_quiet_step (first | (go_at_call 96; exact Calls.of_gr (scmp a b p q _ Q0.out.1 Q0.out.2 Q1.out.1 Q1.out.2))) | quiet_step (fail))
    exact wpQuiet_nil rfl
  intro w1 hg1
  obtain ⟨x1_0, hz1, g1⟩ := alloc1 hg1
  have x1_1 := g1.keep X1.out
  obtain ⟨_, _⟩ := cells2 x1_0
  have _ := fz x1_0
  have _ := ltb x1_0
  obtain ⟨_, _, _, _⟩ := cells4 x1_1
  have _ := fz x1_1
  have _ := ltb x1_1
  have X1_0 := hid x1_0; clear x1_0
  have X1_1 := hid x1_1; clear x1_1
  have G1 := hid (g1)
  clear hg1 g1
  go_wp2
  go_ret
  exact ⟨rfl, G1.out⟩
set_option maxRecDepth 20000 in
set_option maxHeartbeats 400000 in
theorem sIn_y (a b c d p q : Int) (w : World) (k1 : Nat) (X1 : Hid (w.heap[k1]? = some (.cells #[.int .i64 a, .int .i64 b, .int .i64 c, .int .i64 d] 38))) (h1 : okB a b = true) (h2 : okB c d = true) (h3 : okB p q = true) (hd : decide (cmpI a b p q ≤ 0) = true) :
    Calls Try.prog 67 #[.pointer (some ⟨k1, 0, none⟩), fr p q] w fun e w' => e = .returned (.bool (decide (cmpI p q c d ≤ 0))) ∧ Gr w w' := by
  obtain ⟨b1, b2, b3, b4⟩ := okB_bd h1
  obtain ⟨d1, d2, d3, d4⟩ := okB_bd h2
  obtain ⟨e1, e2, e3, e4⟩ := okB_bd h3
  have Q0 := hid (mul_bd (x := a) (y := q) b3 b4 (by omega) e2)
  have Q1 := hid (mul_bd (x := p) (y := b) e3 e4 (by omega) b2)
  have Q2 := hid (mul_bd (x := p) (y := d) e3 e4 (by omega) d2)
  have Q3 := hid (mul_bd (x := c) (y := q) d3 d4 (by omega) e2)
  have HD := hid hd
  clear h1 h2 h3 hd b1 b2 b3 b4 e1 e2 e3 e4 d1 d2 d3 d4
  go_enter Try.func67, Try.ntmps67
  obtain ⟨_, _, _, _⟩ := cells4 X1.out
  have _ := fz X1.out
  have _ := ltb X1.out
  go_wp2_with fail
  refine wp_reg0 16 (by kernel_rfl) (by kernel_rfl) ?_
  apply Exists.intro
  refine ⟨fun wb hb => ?_, ?_⟩
  · obtain ⟨y0, _, _⟩ := alloc1 (Gr.refl _)
    obtain ⟨_, _⟩ := hb.at2 y0
    clear y0
    obtain ⟨_, _, _, _⟩ := hb.at4 (((Gr.refl _).al _).keep X1.out)
    have hd := HD.out
    simp only [headOps, List.contains, List.elem, reduceIte, Bool.false_eq_true]
    repeat (first | go_big_quiet_step (first | (go_at_call 96; with_reducible exact Calls.of_gr (scmp a b p q _ Q0.out.1 Q0.out.2 Q1.out.1 Q1.out.2)) | (go_at_call 96; with_reducible exact Calls.of_gr (scmp p q c d _ Q2.out.1 Q2.out.2 Q3.out.1 Q3.out.2))) | quiet_step (fail))
    exact wpQuiet_nil rfl
  intro w1 hg1
  obtain ⟨x1_0, hz1, g1⟩ := alloc1 hg1
  have x1_1 := g1.keep X1.out
  obtain ⟨_, _⟩ := cells2 x1_0
  have _ := fz x1_0
  have _ := ltb x1_0
  obtain ⟨_, _, _, _⟩ := cells4 x1_1
  have _ := fz x1_1
  have _ := ltb x1_1
  have X1_0 := hid x1_0; clear x1_0
  have X1_1 := hid x1_1; clear x1_1
  have G1 := hid (g1)
  clear hg1 g1
  go_wp2
  go_ret
  exact ⟨rfl, G1.out⟩
theorem sIn (a b c d p q : Int) (w : World) (k1 : Nat) (X1 : Hid (w.heap[k1]? = some (.cells #[.int .i64 a, .int .i64 b, .int .i64 c, .int .i64 d] 38))) (h1 : okB a b = true) (h2 : okB c d = true) (h3 : okB p q = true) :
    Calls Try.prog 67 #[.pointer (some ⟨k1, 0, none⟩), fr p q] w fun e w' => e = .returned (.bool (liesB a b c d p q)) ∧ Gr w w' := by
  unfold liesB
  cases hd : decide (cmpI a b p q ≤ 0) with
  | false => exact sIn_n _ _ _ _ _ _ w k1 X1 h1 h2 h3 hd
  | true => exact sIn_y _ _ _ _ _ _ w k1 X1 h1 h2 h3 hd
set_option maxRecDepth 20000 in
set_option maxHeartbeats 400000 in
theorem sInSpan_n1 (a b c d p q : Int) (w : World) (h : spB a b c d = false) :
    Calls Try.prog 32 #[sp a b c d, fr p q] w fun e w' => e = .returned (.tuple #[.bool false, .int .i64 1]) ∧ Gr w w' := by
  have h := hid h
  go_enter Try.func32, Try.ntmps32
  go_wp2_with fail
  refine (sSpan_f _ _ _ _ _ _ (alloc2 (Gr.refl _)).1 h.out).mono ?_
  rintro e w1 ⟨rfl, hg1⟩
  obtain ⟨x1_0, x1_1, hz1, g1⟩ := alloc2 hg1
  obtain ⟨_, _, _, _⟩ := cells4 x1_0
  have _ := fz x1_0
  have _ := ltb x1_0
  obtain ⟨_, _⟩ := cells2 x1_1
  have _ := fz x1_1
  have _ := ltb x1_1
  have X1_0 := hid x1_0; clear x1_0
  have X1_1 := hid x1_1; clear x1_1
  have G1 := hid (g1)
  clear hg1 g1
  go_wp2
  go_ret2
  exact ⟨rfl, G1.out⟩
set_option maxRecDepth 20000 in
set_option maxHeartbeats 400000 in
theorem sInSpan_n2 (a b c d p q : Int) (w : World) (h : spB a b c d = true) (h3 : okB p q = false) :
    Calls Try.prog 32 #[sp a b c d, fr p q] w fun e w' => e = .returned (.tuple #[.bool false, .int .i64 1]) ∧ Gr w w' := by
  have h := hid h; have h3 := hid h3
  go_enter Try.func32, Try.ntmps32
  go_wp2_with fail
  refine (sSpan_t _ _ _ _ _ _ (alloc2 (Gr.refl _)).1 h.out).mono ?_
  rintro e w1 ⟨rfl, hg1⟩
  obtain ⟨x1_0, x1_1, hz1, g1⟩ := alloc2 hg1
  obtain ⟨_, _, _, _⟩ := cells4 x1_0
  have _ := fz x1_0
  have _ := ltb x1_0
  obtain ⟨_, _⟩ := cells2 x1_1
  have _ := fz x1_1
  have _ := ltb x1_1
  have X1_0 := hid x1_0; clear x1_0
  have X1_1 := hid x1_1; clear x1_1
  have G1 := hid (g1)
  clear hg1 g1
  go_wp2_with fail
  refine (sok_f _ _ _ h3.out).mono ?_
  rintro e w2 ⟨rfl, hg2⟩
  have x2_1 := hg2.keep X1_0.out
  have x2_2 := hg2.keep X1_1.out
  obtain ⟨_, _, _, _⟩ := cells4 x2_1
  have _ := fz x2_1
  have _ := ltb x2_1
  obtain ⟨_, _⟩ := cells2 x2_2
  have _ := fz x2_2
  have _ := ltb x2_2
  have X2_1 := hid x2_1; clear x2_1
  have X2_2 := hid x2_2; clear x2_2
  have G2 := hid (G1.out.trans hg2)
  clear hg2
  go_wp2
  go_ret2
  exact ⟨rfl, G2.out⟩
set_option maxRecDepth 20000 in
set_option maxHeartbeats 400000 in
theorem sInSpan_y (a b c d p q : Int) (w : World) (h : spB a b c d = true) (h3 : okB p q = true) :
    Calls Try.prog 32 #[sp a b c d, fr p q] w fun e w' => e = .returned (.tuple #[.bool (liesB a b c d p q), .int .i64 0]) ∧ Gr w w' := by
  have O := hid (spB_ok h)
  have h := hid h; have h3 := hid h3
  go_enter Try.func32, Try.ntmps32
  go_wp2_with fail
  refine (sSpan_t _ _ _ _ _ _ (alloc2 (Gr.refl _)).1 h.out).mono ?_
  rintro e w1 ⟨rfl, hg1⟩
  obtain ⟨x1_0, x1_1, hz1, g1⟩ := alloc2 hg1
  obtain ⟨_, _, _, _⟩ := cells4 x1_0
  have _ := fz x1_0
  have _ := ltb x1_0
  obtain ⟨_, _⟩ := cells2 x1_1
  have _ := fz x1_1
  have _ := ltb x1_1
  have X1_0 := hid x1_0; clear x1_0
  have X1_1 := hid x1_1; clear x1_1
  have G1 := hid (g1)
  clear hg1 g1
  go_wp2_with fail
  refine (sok_t _ _ _ h3.out).mono ?_
  rintro e w2 ⟨rfl, hg2⟩
  have x2_1 := hg2.keep X1_0.out
  have x2_2 := hg2.keep X1_1.out
  obtain ⟨_, _, _, _⟩ := cells4 x2_1
  have _ := fz x2_1
  have _ := ltb x2_1
  obtain ⟨_, _⟩ := cells2 x2_2
  have _ := fz x2_2
  have _ := ltb x2_2
  have X2_1 := hid x2_1; clear x2_1
  have X2_2 := hid x2_2; clear x2_2
  have G2 := hid (G1.out.trans hg2)
  clear hg2
  go_wp2_with fail
  refine (sIn _ _ _ _ _ _ _ _ (hid X2_1.out) O.out.1 O.out.2.1 h3.out).mono ?_
  rintro e w3 ⟨rfl, hg3⟩
  have x3_1 := hg3.keep X2_1.out
  have x3_2 := hg3.keep X2_2.out
  obtain ⟨_, _, _, _⟩ := cells4 x3_1
  have _ := fz x3_1
  have _ := ltb x3_1
  obtain ⟨_, _⟩ := cells2 x3_2
  have _ := fz x3_2
  have _ := ltb x3_2
  have X3_1 := hid x3_1; clear x3_1
  have X3_2 := hid x3_2; clear x3_2
  have G3 := hid (G2.out.trans hg3)
  clear hg3
  go_wp2
  go_ret2
  exact ⟨rfl, G3.out⟩
set_option maxRecDepth 20000 in
set_option maxHeartbeats 400000 in
theorem iInSpan_n1 (a b c d p q : Int) (w : World) (h : spB a b c d = false) :
    Calls Try.prog 33 #[sp a b c d, fr p q] w fun e w' => e = .returned (.tuple #[.bool false, .int .i64 1]) ∧ Gr w w' := by
  have h := hid h
  go_enter Try.func33, Try.ntmps33
  go_wp2_with fail
  refine (iSpan_f _ _ _ _ _ h.out).mono ?_
  rintro e w1 ⟨rfl, hg1⟩
  obtain ⟨x1_0, x1_1, hz1, g1⟩ := alloc2 hg1
  obtain ⟨_, _, _, _⟩ := cells4 x1_0
  have _ := fz x1_0
  have _ := ltb x1_0
  obtain ⟨_, _⟩ := cells2 x1_1
  have _ := fz x1_1
  have _ := ltb x1_1
  have X1_0 := hid x1_0; clear x1_0
  have X1_1 := hid x1_1; clear x1_1
  have G1 := hid (g1)
  clear hg1 g1
  go_wp2
  go_ret2
  exact ⟨rfl, G1.out⟩
set_option maxRecDepth 20000 in
set_option maxHeartbeats 400000 in
theorem iInSpan_n2 (a b c d p q : Int) (w : World) (h : spB a b c d = true) (h3 : okB p q = false) :
    Calls Try.prog 33 #[sp a b c d, fr p q] w fun e w' => e = .returned (.tuple #[.bool false, .int .i64 1]) ∧ Gr w w' := by
  have h := hid h; have h3 := hid h3
  go_enter Try.func33, Try.ntmps33
  go_wp2_with fail
  refine (iSpan_t _ _ _ _ _ h.out).mono ?_
  rintro e w1 ⟨rfl, hg1⟩
  obtain ⟨x1_0, x1_1, hz1, g1⟩ := alloc2 hg1
  obtain ⟨_, _, _, _⟩ := cells4 x1_0
  have _ := fz x1_0
  have _ := ltb x1_0
  obtain ⟨_, _⟩ := cells2 x1_1
  have _ := fz x1_1
  have _ := ltb x1_1
  have X1_0 := hid x1_0; clear x1_0
  have X1_1 := hid x1_1; clear x1_1
  have G1 := hid (g1)
  clear hg1 g1
  go_wp2_with fail
  refine (iok_f _ _ _ h3.out).mono ?_
  rintro e w2 ⟨rfl, hg2⟩
  have x2_1 := hg2.keep X1_0.out
  have x2_2 := hg2.keep X1_1.out
  obtain ⟨_, _, _, _⟩ := cells4 x2_1
  have _ := fz x2_1
  have _ := ltb x2_1
  obtain ⟨_, _⟩ := cells2 x2_2
  have _ := fz x2_2
  have _ := ltb x2_2
  have X2_1 := hid x2_1; clear x2_1
  have X2_2 := hid x2_2; clear x2_2
  have G2 := hid (G1.out.trans hg2)
  clear hg2
  go_wp2
  go_ret2
  exact ⟨rfl, G2.out⟩
set_option maxRecDepth 20000 in
set_option maxHeartbeats 400000 in
theorem iInSpan_yn (a b c d p q : Int) (w : World) (h : spB a b c d = true) (h3 : okB p q = true) (hd : decide (cmpI a b p q ≤ 0) = false) :
    Calls Try.prog 33 #[sp a b c d, fr p q] w fun e w' => e = .returned (.tuple #[.bool false, .int .i64 0]) ∧ Gr w w' := by
  have O := hid (spB_ok h)
  have h := hid h; have h3 := hid h3
  go_enter Try.func33, Try.ntmps33
  go_wp2_with fail
  refine (iSpan_t _ _ _ _ _ h.out).mono ?_
  rintro e w1 ⟨rfl, hg1⟩
  obtain ⟨x1_0, x1_1, hz1, g1⟩ := alloc2 hg1
  obtain ⟨_, _, _, _⟩ := cells4 x1_0
  have _ := fz x1_0
  have _ := ltb x1_0
  obtain ⟨_, _⟩ := cells2 x1_1
  have _ := fz x1_1
  have _ := ltb x1_1
  have X1_0 := hid x1_0; clear x1_0
  have X1_1 := hid x1_1; clear x1_1
  have G1 := hid (g1)
  clear hg1 g1
  go_wp2_with fail
  refine (iok_t _ _ _ h3.out).mono ?_
  rintro e w2 ⟨rfl, hg2⟩
  have x2_1 := hg2.keep X1_0.out
  have x2_2 := hg2.keep X1_1.out
  obtain ⟨_, _, _, _⟩ := cells4 x2_1
  have _ := fz x2_1
  have _ := ltb x2_1
  obtain ⟨_, _⟩ := cells2 x2_2
  have _ := fz x2_2
  have _ := ltb x2_2
  have X2_1 := hid x2_1; clear x2_1
  have X2_2 := hid x2_2; clear x2_2
  have G2 := hid (G1.out.trans hg2)
  clear hg2
  go_wp2_with fail
  refine (iord _ _ _ _ _ O.out.1 h3.out).mono ?_
  rintro e w3 ⟨rfl, hg3⟩
  have x3_1 := hg3.keep X2_1.out
  have x3_2 := hg3.keep X2_2.out
  obtain ⟨_, _, _, _⟩ := cells4 x3_1
  have _ := fz x3_1
  have _ := ltb x3_1
  obtain ⟨_, _⟩ := cells2 x3_2
  have _ := fz x3_2
  have _ := ltb x3_2
  have X3_1 := hid x3_1; clear x3_1
  have X3_2 := hid x3_2; clear x3_2
  have G3 := hid (G2.out.trans hg3)
  clear hg3
  go_wp2
  go_ret2
  exact ⟨rfl, G3.out⟩
set_option maxRecDepth 20000 in
set_option maxHeartbeats 400000 in
theorem iInSpan_yy (a b c d p q : Int) (w : World) (h : spB a b c d = true) (h3 : okB p q = true) (hd : decide (cmpI a b p q ≤ 0) = true) :
    Calls Try.prog 33 #[sp a b c d, fr p q] w fun e w' => e = .returned (.tuple #[.bool (decide (cmpI p q c d ≤ 0)), .int .i64 0]) ∧ Gr w w' := by
  have O := hid (spB_ok h)
  have h := hid h; have h3 := hid h3
  go_enter Try.func33, Try.ntmps33
  go_wp2_with fail
  refine (iSpan_t _ _ _ _ _ h.out).mono ?_
  rintro e w1 ⟨rfl, hg1⟩
  obtain ⟨x1_0, x1_1, hz1, g1⟩ := alloc2 hg1
  obtain ⟨_, _, _, _⟩ := cells4 x1_0
  have _ := fz x1_0
  have _ := ltb x1_0
  obtain ⟨_, _⟩ := cells2 x1_1
  have _ := fz x1_1
  have _ := ltb x1_1
  have X1_0 := hid x1_0; clear x1_0
  have X1_1 := hid x1_1; clear x1_1
  have G1 := hid (g1)
  clear hg1 g1
  go_wp2_with fail
  refine (iok_t _ _ _ h3.out).mono ?_
  rintro e w2 ⟨rfl, hg2⟩
  have x2_1 := hg2.keep X1_0.out
  have x2_2 := hg2.keep X1_1.out
  obtain ⟨_, _, _, _⟩ := cells4 x2_1
  have _ := fz x2_1
  have _ := ltb x2_1
  obtain ⟨_, _⟩ := cells2 x2_2
  have _ := fz x2_2
  have _ := ltb x2_2
  have X2_1 := hid x2_1; clear x2_1
  have X2_2 := hid x2_2; clear x2_2
  have G2 := hid (G1.out.trans hg2)
  clear hg2
  go_wp2_with fail
  refine (iord _ _ _ _ _ O.out.1 h3.out).mono ?_
  rintro e w3 ⟨rfl, hg3⟩
  have x3_1 := hg3.keep X2_1.out
  have x3_2 := hg3.keep X2_2.out
  obtain ⟨_, _, _, _⟩ := cells4 x3_1
  have _ := fz x3_1
  have _ := ltb x3_1
  obtain ⟨_, _⟩ := cells2 x3_2
  have _ := fz x3_2
  have _ := ltb x3_2
  have X3_1 := hid x3_1; clear x3_1
  have X3_2 := hid x3_2; clear x3_2
  have G3 := hid (G2.out.trans hg3)
  clear hg3
  go_wp2_with fail
  refine (iord _ _ _ _ _ h3.out O.out.2.1).mono ?_
  rintro e w4 ⟨rfl, hg4⟩
  have x4_1 := hg4.keep X3_1.out
  have x4_2 := hg4.keep X3_2.out
  obtain ⟨_, _, _, _⟩ := cells4 x4_1
  have _ := fz x4_1
  have _ := ltb x4_1
  obtain ⟨_, _⟩ := cells2 x4_2
  have _ := fz x4_2
  have _ := ltb x4_2
  have X4_1 := hid x4_1; clear x4_1
  have X4_2 := hid x4_2; clear x4_2
  have G4 := hid (G3.out.trans hg4)
  clear hg4
  go_wp2
  go_ret2
  exact ⟨rfl, G4.out⟩
theorem bothInSpan (a b c d p q : Int) : ∃ (R : Bool) (C : Int), (∀ w, Calls Try.prog 32 #[sp a b c d, fr p q] w fun e w' => e = .returned (.tuple #[.bool R, .int .i64 C]) ∧ Gr w w') ∧
    (∀ w, Calls Try.prog 33 #[sp a b c d, fr p q] w fun e w' => e = .returned (.tuple #[.bool R, .int .i64 C]) ∧ Gr w w') := by
  cases h : spB a b c d with
  | false => exact ⟨false, 1, fun w => sInSpan_n1 _ _ _ _ _ _ w h, fun w => iInSpan_n1 _ _ _ _ _ _ w h⟩
  | true =>
    cases h3 : okB p q with
    | false => exact ⟨false, 1, fun w => sInSpan_n2 _ _ _ _ _ _ w h h3, fun w => iInSpan_n2 _ _ _ _ _ _ w h h3⟩
    | true =>
      refine ⟨_, _, fun w => sInSpan_y _ _ _ _ _ _ w h h3, fun w => ?_⟩
      unfold liesB
      cases hd : decide (cmpI a b p q ≤ 0) with
      | false => exact iInSpan_yn _ _ _ _ _ _ w h h3 hd
      | true => exact iInSpan_yy _ _ _ _ _ _ w h h3 hd
end Go.Proofs.Ytenjljecnabajaa
