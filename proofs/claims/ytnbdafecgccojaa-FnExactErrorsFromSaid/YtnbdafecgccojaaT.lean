/- WALKS: SpanAround, AddSpans, SubSpans, of the program and of the reference. -/
import Derived.Test.YtnbdafecgccojaaS
namespace Go.Proofs.Ytnbdafecgccojaa
open Go.RowKit Go.Sort

theorem iok_t (p q : Int) (w : World) (h : okB p q = true) : Calls Try.prog 74 #[fr p q] w fun e w' => e = .returned (.bool true) ∧ Gr w w' :=
  (iok_any p q w).mono fun e w' ⟨he, hg⟩ => ⟨by rw [he, h], hg⟩
theorem iok_f (p q : Int) (w : World) (h : okB p q = false) : Calls Try.prog 74 #[fr p q] w fun e w' => e = .returned (.bool false) ∧ Gr w w' :=
  (iok_any p q w).mono fun e w' ⟨he, hg⟩ => ⟨by rw [he, h], hg⟩
theorem iSpan_t (a b c d : Int) (w : World) (h : spB a b c d = true) : Calls Try.prog 255 #[sp a b c d] w fun e w' => e = .returned (.bool true) ∧ Gr w w' :=
  (iValidSpan a b c d w).mono fun e w' ⟨he, hg⟩ => ⟨by rw [he, h], hg⟩
theorem iSpan_f (a b c d : Int) (w : World) (h : spB a b c d = false) : Calls Try.prog 255 #[sp a b c d] w fun e w' => e = .returned (.bool false) ∧ Gr w w' :=
  (iValidSpan a b c d w).mono fun e w' ⟨he, hg⟩ => ⟨by rw [he, h], hg⟩
theorem spB_ok {a b c d : Int} (h : spB a b c d = true) : okB a b = true ∧ okB c d = true ∧ cmpI a b c d ≤ 0 := by
  unfold spB at h; simpa [and_assoc] using h
/-- What is told of a span whose ends are calculated. -/
theorem told_bV (f : Nat) (cap : Array Value) (n1 d1 n2 d2 : Int) (w : World) (hen : ∀ w, (callFunc f cap).run Try.prog w = .ok (.enter f cap) w)
    (h0 : okB (redP n1 d1) (redQ n1 d1) = true → okB (redP n2 d2) (redQ n2 d2) = true → ∀ w', Gr w w' → Calls Try.prog f cap w' fun e w'' => e = .returned (sp (redP n1 d1) (redQ n1 d1) (redP n2 d2) (redQ n2 d2)) ∧ Gr w' w'')
    (h1 : okB (redP n1 d1) (redQ n1 d1) = false → ∀ w', Gr w w' → Calls Try.prog f cap w' fun e w'' => (∃ x y, e = .panicked [{ v := .iface 212 (fr x y), recovered := false }]) ∧ Gr w' w'')
    (h2 : okB (redP n1 d1) (redQ n1 d1) = true → okB (redP n2 d2) (redQ n2 d2) = false → ∀ w', Gr w w' → Calls Try.prog f cap w' fun e w'' => (∃ x y, e = .panicked [{ v := .iface 212 (fr x y), recovered := false }]) ∧ Gr w' w'') :
    Calls Try.prog 158 #[.func (.func f) #[] cap] w fun e w' => e = .returned (bV n1 d1 n2 d2) ∧ Gr w w' := by
  unfold bV
  cases k1 : okB (redP n1 d1) (redQ n1 d1) with
  | false => exact told_great_S f cap w hen (h1 k1)
  | true =>
    cases k2 : okB (redP n2 d2) (redQ n2 d2) with
    | false => exact told_great_S f cap w hen (h2 k1 k2)
    | true => exact told_ok_S f cap _ _ _ _ w hen (h0 k1 k2)
set_option maxRecDepth 20000 in
set_option maxHeartbeats 400000 in
theorem iAround_n1 (a b c d : Int) (w : World) (h1 : okB a b = false) :
    Calls Try.prog 78 #[fr a b, fr c d] w fun e w' => e = .returned (.tuple #[sp 0 0 0 0, .int .i64 1]) ∧ Gr w w' := by
  have h1 := hid h1
  go_enter Try.func78, Try.ntmps78
  go_wp2_with fail
  refine (iok_f _ _ _ h1.out).mono ?_
  rintro e w1 ⟨rfl, hg1⟩
  obtain ⟨x1_0, x1_1, x1_2, hz1, g1⟩ := alloc3 hg1
  obtain ⟨_, _⟩ := cells2 x1_0
  have _ := fz x1_0
  have _ := ltb x1_0
  obtain ⟨_, _⟩ := cells2 x1_1
  have _ := fz x1_1
  have _ := ltb x1_1
  obtain ⟨_, _, _, _⟩ := cells4 x1_2
  have _ := fz x1_2
  have _ := ltb x1_2
  have X1_0 := hid x1_0; clear x1_0
  have X1_1 := hid x1_1; clear x1_1
  have X1_2 := hid x1_2; clear x1_2
  have G1 := hid (g1)
  clear hg1 g1
  go_wp2
  refine bodyPost_ret (v := .tuple #[sp 0 0 0 0, .int .i64 1]) (by simp [results, Try.results78, go_sem, *]) rfl ⟨rfl, ?_⟩
  exact ((((G1.out).setCell (by simp <;> omega) _).setCell (by simp <;> omega) _).setCell (by simp <;> omega) _).setCell (by simp <;> omega) _
set_option maxRecDepth 20000 in
set_option maxHeartbeats 400000 in
theorem iAround_n2 (a b c d : Int) (w : World) (h1 : okB a b = true) (h2 : okB c d = false) :
    Calls Try.prog 78 #[fr a b, fr c d] w fun e w' => e = .returned (.tuple #[sp 0 0 0 0, .int .i64 1]) ∧ Gr w w' := by
  have h1 := hid h1
  have h2 := hid h2
  go_enter Try.func78, Try.ntmps78
  go_wp2_with fail
  refine (iok_t _ _ _ h1.out).mono ?_
  rintro e w1 ⟨rfl, hg1⟩
  obtain ⟨x1_0, x1_1, x1_2, hz1, g1⟩ := alloc3 hg1
  obtain ⟨_, _⟩ := cells2 x1_0
  have _ := fz x1_0
  have _ := ltb x1_0
  obtain ⟨_, _⟩ := cells2 x1_1
  have _ := fz x1_1
  have _ := ltb x1_1
  obtain ⟨_, _, _, _⟩ := cells4 x1_2
  have _ := fz x1_2
  have _ := ltb x1_2
  have X1_0 := hid x1_0; clear x1_0
  have X1_1 := hid x1_1; clear x1_1
  have X1_2 := hid x1_2; clear x1_2
  have G1 := hid (g1)
  clear hg1 g1
  go_wp2_with fail
  refine (iok_f _ _ _ h2.out).mono ?_
  rintro e w2 ⟨rfl, hg2⟩
  have x2_1 := hg2.keep X1_0.out
  have x2_2 := hg2.keep X1_1.out
  have x2_3 := hg2.keep X1_2.out
  obtain ⟨_, _⟩ := cells2 x2_1
  have _ := fz x2_1
  have _ := ltb x2_1
  obtain ⟨_, _⟩ := cells2 x2_2
  have _ := fz x2_2
  have _ := ltb x2_2
  obtain ⟨_, _, _, _⟩ := cells4 x2_3
  have _ := fz x2_3
  have _ := ltb x2_3
  have X2_1 := hid x2_1; clear x2_1
  have X2_2 := hid x2_2; clear x2_2
  have X2_3 := hid x2_3; clear x2_3
  have G2 := hid (G1.out.trans hg2)
  clear hg2
  go_wp2
  refine bodyPost_ret (v := .tuple #[sp 0 0 0 0, .int .i64 1]) (by simp [results, Try.results78, go_sem, *]) rfl ⟨rfl, ?_⟩
  exact ((((G2.out).setCell (by simp <;> omega) _).setCell (by simp <;> omega) _).setCell (by simp <;> omega) _).setCell (by simp <;> omega) _
set_option maxRecDepth 20000 in
set_option maxHeartbeats 400000 in
theorem iAround_neg (a b c d : Int) (w : World) (h1 : okB a b = true) (h2 : okB c d = true) (hc : c < 0) :
    Calls Try.prog 78 #[fr a b, fr c d] w fun e w' => e = .returned (.tuple #[sp 0 0 0 0, .int .i64 2]) ∧ Gr w w' := by
  have h1 := hid h1
  have h2 := hid h2
  go_enter Try.func78, Try.ntmps78
  go_wp2_with fail
  refine (iok_t _ _ _ h1.out).mono ?_
  rintro e w1 ⟨rfl, hg1⟩
  obtain ⟨x1_0, x1_1, x1_2, hz1, g1⟩ := alloc3 hg1
  obtain ⟨_, _⟩ := cells2 x1_0
  have _ := fz x1_0
  have _ := ltb x1_0
  obtain ⟨_, _⟩ := cells2 x1_1
  have _ := fz x1_1
  have _ := ltb x1_1
  obtain ⟨_, _, _, _⟩ := cells4 x1_2
  have _ := fz x1_2
  have _ := ltb x1_2
  have X1_0 := hid x1_0; clear x1_0
  have X1_1 := hid x1_1; clear x1_1
  have X1_2 := hid x1_2; clear x1_2
  have G1 := hid (g1)
  clear hg1 g1
  go_wp2_with fail
  refine (iok_t _ _ _ h2.out).mono ?_
  rintro e w2 ⟨rfl, hg2⟩
  have x2_1 := hg2.keep X1_0.out
  have x2_2 := hg2.keep X1_1.out
  have x2_3 := hg2.keep X1_2.out
  obtain ⟨_, _⟩ := cells2 x2_1
  have _ := fz x2_1
  have _ := ltb x2_1
  obtain ⟨_, _⟩ := cells2 x2_2
  have _ := fz x2_2
  have _ := ltb x2_2
  obtain ⟨_, _, _, _⟩ := cells4 x2_3
  have _ := fz x2_3
  have _ := ltb x2_3
  have X2_1 := hid x2_1; clear x2_1
  have X2_2 := hid x2_2; clear x2_2
  have X2_3 := hid x2_3; clear x2_3
  have G2 := hid (G1.out.trans hg2)
  clear hg2
  go_wp2
  refine bodyPost_ret (v := .tuple #[sp 0 0 0 0, .int .i64 2]) (by simp [results, Try.results78, go_sem, *]) rfl ⟨rfl, ?_⟩
  exact ((((G2.out).setCell (by simp <;> omega) _).setCell (by simp <;> omega) _).setCell (by simp <;> omega) _).setCell (by simp <;> omega) _
set_option maxRecDepth 20000 in
set_option maxHeartbeats 400000 in
theorem iAround_yes (a b c d : Int) (w : World) (h1 : okB a b = true) (h2 : okB c d = true) (hc : ¬ c < 0) :
    Calls Try.prog 78 #[fr a b, fr c d] w fun e w' => e = .returned (bV (a*d-c*b) (b*d) (a*d+c*b) (b*d)) ∧ Gr w w' := by
  have h1 := hid h1
  have h2 := hid h2
  obtain ⟨p, q, p', q', c', hf⟩ := bV_form (a*d-c*b) (b*d) (a*d+c*b) (b*d)
  rw [hf]
  have F := hid hf; clear hf
  go_enter Try.func78, Try.ntmps78
  go_wp2_with fail
  refine (iok_t _ _ _ h1.out).mono ?_
  rintro e w1 ⟨rfl, hg1⟩
  obtain ⟨x1_0, x1_1, x1_2, hz1, g1⟩ := alloc3 hg1
  obtain ⟨_, _⟩ := cells2 x1_0
  have _ := fz x1_0
  have _ := ltb x1_0
  obtain ⟨_, _⟩ := cells2 x1_1
  have _ := fz x1_1
  have _ := ltb x1_1
  obtain ⟨_, _, _, _⟩ := cells4 x1_2
  have _ := fz x1_2
  have _ := ltb x1_2
  have X1_0 := hid x1_0; clear x1_0
  have X1_1 := hid x1_1; clear x1_1
  have X1_2 := hid x1_2; clear x1_2
  have G1 := hid (g1)
  clear hg1 g1
  go_wp2_with fail
  refine (iok_t _ _ _ h2.out).mono ?_
  rintro e w2 ⟨rfl, hg2⟩
  have x2_1 := hg2.keep X1_0.out
  have x2_2 := hg2.keep X1_1.out
  have x2_3 := hg2.keep X1_2.out
  obtain ⟨_, _⟩ := cells2 x2_1
  have _ := fz x2_1
  have _ := ltb x2_1
  obtain ⟨_, _⟩ := cells2 x2_2
  have _ := fz x2_2
  have _ := ltb x2_2
  obtain ⟨_, _, _, _⟩ := cells4 x2_3
  have _ := fz x2_3
  have _ := ltb x2_3
  have X2_1 := hid x2_1; clear x2_1
  have X2_2 := hid x2_2; clear x2_2
  have X2_3 := hid x2_3; clear x2_3
  have G2 := hid (G1.out.trans hg2)
  clear hg2
  go_wp2_with fail
  refine (told_bV 159 _ (a*d-c*b) (b*d) (a*d+c*b) (b*d) _ (fun _ => by kernel_rfl) (fun k1 k2 w' hg' => caround_ok a b c d _ _ w' (hid (hg'.keep X2_1.out)) (hid (hg'.keep X2_2.out)) h1.out h2.out k1 k2) (fun k1 w' hg' => caround_b1 a b c d _ _ w' (hid (hg'.keep X2_1.out)) (hid (hg'.keep X2_2.out)) h1.out h2.out k1) (fun k1 k2 w' hg' => caround_b2 a b c d _ _ w' (hid (hg'.keep X2_1.out)) (hid (hg'.keep X2_2.out)) h1.out h2.out k1 k2)).mono ?_
  rintro e w3 ⟨rfl, hg3⟩
  have x3_1 := hg3.keep X2_1.out
  have x3_2 := hg3.keep X2_2.out
  have x3_3 := hg3.keep X2_3.out
  obtain ⟨_, _⟩ := cells2 x3_1
  have _ := fz x3_1
  have _ := ltb x3_1
  obtain ⟨_, _⟩ := cells2 x3_2
  have _ := fz x3_2
  have _ := ltb x3_2
  obtain ⟨_, _, _, _⟩ := cells4 x3_3
  have _ := fz x3_3
  have _ := ltb x3_3
  have X3_1 := hid x3_1; clear x3_1
  have X3_2 := hid x3_2; clear x3_2
  have X3_3 := hid x3_3; clear x3_3
  have G3 := hid (G2.out.trans hg3)
  clear hg3
  rw [F.out]
  go_wp2
  refine bodyPost_ret (v := .tuple #[sp p q p' q', .int .i64 c']) (by simp [results, Try.results78, go_sem, *]) rfl ⟨rfl, ?_⟩
  exact ((((G3.out).setCell (by simp <;> omega) _).setCell (by simp <;> omega) _).setCell (by simp <;> omega) _).setCell (by simp <;> omega) _
end Go.Proofs.Ytnbdafecgccojaa
