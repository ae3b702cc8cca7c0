/- WALKS: WidthOf of the program, where the width is a method that is bound to a span. -/
import Derived.Test.YteopkbeokiomlaaV
namespace Go.Proofs.Yteopkbeokiomlaa
open Go.RowKit Go.Sort

set_option maxRecDepth 20000 in
set_option maxHeartbeats 400000 in
theorem toldBF_ok (f : Nat) (u : Value) (P Q : Int) (w : World) (hen : ∀ w, (callFunc f #[u]).run Try.prog w = .ok (.enter f #[u]) w) (hF : ∀ w', Gr w w' → Calls Try.prog f #[u] w' fun e w'' => e = .returned (fr P Q) ∧ Gr w' w'') :
    Calls Try.prog 67 #[.func (.func f) #[u] #[]] w fun e w' => e = .returned (.tuple #[fr P Q, .int .i64 0]) ∧ Gr w w' := by
  have HF := hid hF; clear hF
  go_enter_defers Try.func67, Try.ntmps67
  go_wp2_with fail
  refine (HF.out _ ((Gr.alloc _ _).trans (Gr.alloc _ _))).mono ?_
  rintro e w1 ⟨rfl, hg⟩
  obtain ⟨x0, x1, hz, G1⟩ := alloc2 hg
  obtain ⟨_, _⟩ := cells2 x0
  have _ := cells1 x1
  have _ := fz x0
  have _ := fz x1
  have G1 := hid G1
  clear hg x0 x1
  go_wp2_with fail
  refine leaves_cons (f := 140) (args := #[.pointer (some ⟨w.heap.size + 1, 0, none⟩)]) (by simp) (by simp [go_sem]) ?_
  refine (catch_idle_F _ _).mono ?_
  rintro e u' w2 ⟨rfl, rfl, rfl⟩
  simp [Leaves, settle, results, Try.results67, go_sem, *]
  exact (((G1.out.setCell (by simp) _).setCell (by simp) _).setCell (by simp) _)

set_option maxRecDepth 20000 in
set_option maxHeartbeats 400000 in
theorem toldBF_great (f : Nat) (u : Value) (w : World) (hen : ∀ w, (callFunc f #[u]).run Try.prog w = .ok (.enter f #[u]) w) (hF : ∀ w', Gr w w' → Calls Try.prog f #[u] w' fun e w'' => (∃ p q, e = .panicked [{ v := .iface 194 (fr p q), recovered := false }]) ∧ Gr w' w'') :
    Calls Try.prog 67 #[.func (.func f) #[u] #[]] w fun e w' => e = .returned (.tuple #[fr 0 0, .int .i64 3]) ∧ Gr w w' := by
  have HF := hid hF; clear hF
  go_enter_defers Try.func67, Try.ntmps67
  go_wp2_with fail
  refine (HF.out _ ((Gr.alloc _ _).trans (Gr.alloc _ _))).mono ?_
  rintro e w1 ⟨⟨p, q, rfl⟩, hg⟩
  obtain ⟨x0, x1, hz, G1⟩ := alloc2 hg
  refine leaves_cons (f := 140) (args := #[.pointer (some ⟨w.heap.size + 1, 0, none⟩)]) (by simp) (by simp [go_sem]) ?_
  refine (catch_great_F _ _ _ _ _ _ x1).mono ?_
  rintro e u' w2 ⟨rfl, rfl, w3, hg3, rfl⟩
  have x0 := hg3.keep x0
  obtain ⟨_, _⟩ := cells2 x0
  have _ := cells1 (hg3.keep x1)
  simp [Leaves, settle, results, Try.results67, go_sem, *]
  exact (G1.trans hg3).setCell (by simp) _
/-- What is told of a fraction that is calculated by a method that is bound to a value. -/
theorem toldBF_rV (f : Nat) (u : Value) (n d : Int) (w : World) (hen : ∀ w, (callFunc f #[u]).run Try.prog w = .ok (.enter f #[u]) w)
    (h0 : okB (redP n d) (redQ n d) = true → ∀ w', Gr w w' → Calls Try.prog f #[u] w' fun e w'' => e = .returned (fr (redP n d) (redQ n d)) ∧ Gr w' w'')
    (h1 : okB (redP n d) (redQ n d) = false → ∀ w', Gr w w' → Calls Try.prog f #[u] w' fun e w'' => (∃ x y, e = .panicked [{ v := .iface 194 (fr x y), recovered := false }]) ∧ Gr w' w'') :
    Calls Try.prog 67 #[.func (.func f) #[u] #[]] w fun e w' => e = .returned (.tuple #[fr (rP n d) (rQ n d), .int .i64 (rC n d)]) ∧ Gr w w' := by
  unfold rP rQ rC
  cases k1 : okB (redP n d) (redQ n d) with
  | false => exact toldBF_great f u w hen (h1 k1)
  | true => exact toldBF_ok f u _ _ w hen (h0 k1)
set_option maxRecDepth 20000 in
set_option maxHeartbeats 400000 in
theorem swidth_ok (a b c d : Int) (w : World) (h1 : okB a b = true) (h2 : okB c d = true) (g1 : okB (redP (c*b-a*d) (d*b)) (redQ (c*b-a*d) (d*b)) = true) :
    Calls Try.prog 68 #[sp a b c d] w fun e w' => e = .returned (fr (redP (c*b-a*d) (d*b)) (redQ (c*b-a*d) (d*b))) ∧ Gr w w' := by
  have h1 := hid h1; have h2 := hid h2; have g1 := hid g1
  go_enter Try.func68, Try.ntmps68
  go_wp2_with fail
  refine (minus_yes _ _ _ _ _ h2.out h1.out g1.out).mono ?_
  rintro e w1 ⟨rfl, hg1⟩
  obtain ⟨x1_0, x1_1, hz1, g1⟩ := alloc2 hg1
  obtain ⟨_, _, _, _⟩ := cells4 x1_0
  have _ := fz x1_0
  have _ := ltb x1_0
  obtain ⟨_, _⟩ := cells2 x1_1
  have _ := fz x1_1
  have _ := ltb x1_1
  have X1_0 := hid x1_0; clear x1_0
  have X1_1 := hid x1_1; clear x1_1
  have G1 := hid (g1)
  clear hg1 g1
  go_wp2
  refine bodyPost_ret (v := fr (redP (c*b-a*d) (d*b)) (redQ (c*b-a*d) (d*b))) (by simp [results, Try.results68, go_sem, *]) rfl ⟨rfl, ?_⟩
  exact ((G1.out).setCell (by simp <;> omega) _).setCell (by simp <;> omega) _
set_option maxRecDepth 20000 in
set_option maxHeartbeats 400000 in
theorem swidth_bad (a b c d : Int) (w : World) (h1 : okB a b = true) (h2 : okB c d = true) (g1 : okB (redP (c*b-a*d) (d*b)) (redQ (c*b-a*d) (d*b)) = false) :
    Calls Try.prog 68 #[sp a b c d] w fun e w' => (∃ x y, e = .panicked [{ v := .iface 194 (fr x y), recovered := false }]) ∧ Gr w w' := by
  have h1 := hid h1; have h2 := hid h2; have g1 := hid g1
  go_enter Try.func68, Try.ntmps68
  go_wp2_with fail
  refine (minus_no _ _ _ _ _ h2.out h1.out g1.out).mono ?_
  rintro e w1 ⟨⟨xp, yp, rfl⟩, hg1⟩
  obtain ⟨x1_0, x1_1, hz1, g1⟩ := alloc2 hg1
  obtain ⟨_, _, _, _⟩ := cells4 x1_0
  have _ := fz x1_0
  have _ := ltb x1_0
  obtain ⟨_, _⟩ := cells2 x1_1
  have _ := fz x1_1
  have _ := ltb x1_1
  have X1_0 := hid x1_0; clear x1_0
  have X1_1 := hid x1_1; clear x1_1
  have G1 := hid (g1)
  clear hg1 g1
  exact ⟨rfl, ⟨xp, yp, rfl⟩, G1.out⟩
set_option maxRecDepth 20000 in
set_option maxHeartbeats 400000 in
theorem iWidthB_no (a b c d : Int) (w : World) (h : spB a b c d = false) :
    Calls Try.prog 16 #[sp a b c d] w fun e w' => e = .returned (.tuple #[fr 0 0, .int .i64 1]) ∧ Gr w w' := by
  have h := hid h
  go_enter Try.func16, Try.ntmps16
  go_wp2_with fail
  refine (iSpan_f _ _ _ _ _ h.out).mono ?_
  rintro e w1 ⟨rfl, hg1⟩
  obtain ⟨x1_0, x1_1, hz1, g1⟩ := alloc2 hg1
  obtain ⟨_, _, _, _⟩ := cells4 x1_0
  have _ := fz x1_0
  have _ := ltb x1_0
  obtain ⟨_, _⟩ := cells2 x1_1
  have _ := fz x1_1
  have _ := ltb x1_1
  have X1_0 := hid x1_0; clear x1_0
  have X1_1 := hid x1_1; clear x1_1
  have G1 := hid (g1)
  clear hg1 g1
  go_wp2
  refine bodyPost_ret (v := .tuple #[fr 0 0, .int .i64 1]) (by simp [results, Try.results16, go_sem, *]) rfl ⟨rfl, ?_⟩
  exact ((G1.out).setCell (by simp <;> omega) _).setCell (by simp <;> omega) _
set_option maxRecDepth 20000 in
set_option maxHeartbeats 400000 in
theorem iWidthB_yes (a b c d : Int) (w : World) (h : spB a b c d = true) :
    Calls Try.prog 16 #[sp a b c d] w fun e w' => e = .returned (.tuple #[fr (rP (c*b-a*d) (d*b)) (rQ (c*b-a*d) (d*b)), .int .i64 (rC (c*b-a*d) (d*b))]) ∧ Gr w w' := by
  have O := hid (spB_ok h)
  have h := hid h
  go_enter Try.func16, Try.ntmps16
  go_wp2_with fail
  refine (iSpan_t _ _ _ _ _ h.out).mono ?_
  rintro e w1 ⟨rfl, hg1⟩
  obtain ⟨x1_0, x1_1, hz1, g1⟩ := alloc2 hg1
  obtain ⟨_, _, _, _⟩ := cells4 x1_0
  have _ := fz x1_0
  have _ := ltb x1_0
  obtain ⟨_, _⟩ := cells2 x1_1
  have _ := fz x1_1
  have _ := ltb x1_1
  have X1_0 := hid x1_0; clear x1_0
  have X1_1 := hid x1_1; clear x1_1
  have G1 := hid (g1)
  clear hg1 g1
  go_wp2_with fail
  refine (toldBF_rV 68 (sp a b c d) (c*b-a*d) (d*b) _ (fun _ => by kernel_rfl) (fun g1 w' hg' => swidth_ok _ _ _ _ w' O.out.1 O.out.2.1 g1) (fun g1 w' hg' => swidth_bad _ _ _ _ w' O.out.1 O.out.2.1 g1)).mono ?_
  rintro e w2 ⟨rfl, hg2⟩
  have x2_1 := hg2.keep X1_0.out
  have x2_2 := hg2.keep X1_1.out
  obtain ⟨_, _, _, _⟩ := cells4 x2_1
  have _ := fz x2_1
  have _ := ltb x2_1
  obtain ⟨_, _⟩ := cells2 x2_2
  have _ := fz x2_2
  have _ := ltb x2_2
  have X2_1 := hid x2_1; clear x2_1
  have X2_2 := hid x2_2; clear x2_2
  have G2 := hid (G1.out.trans hg2)
  clear hg2
  go_wp2
  refine bodyPost_ret (v := .tuple #[fr (rP (c*b-a*d) (d*b)) (rQ (c*b-a*d) (d*b)), .int .i64 (rC (c*b-a*d) (d*b))]) (by simp [results, Try.results16, go_sem, *]) rfl ⟨rfl, ?_⟩
  exact ((G2.out).setCell (by simp <;> omega) _).setCell (by simp <;> omega) _
theorem bothWidthB (a b c d : Int) : ∃ P Q C : Int, (∀ w, Calls Try.prog 14 #[sp a b c d] w fun e w' => e = .returned (.tuple #[fr P Q, .int .i64 C]) ∧ Gr w w') ∧
    (∀ w, Calls Try.prog 16 #[sp a b c d] w fun e w' => e = .returned (.tuple #[fr P Q, .int .i64 C]) ∧ Gr w w') := by
  cases h1 : spB a b c d with
  | false => exact ⟨0, 0, 1, fun w => sWidth_no _ _ _ _ w h1, fun w => iWidthB_no _ _ _ _ w h1⟩
  | true => exact ⟨_, _, _, fun w => sWidth_yes _ _ _ _ w h1, fun w => iWidthB_yes _ _ _ _ w h1⟩
end Go.Proofs.Yteopkbeokiomlaa
