/- WALKS: WidthOf and InSpan, of the program and of the reference. -/
import Derived.Test.YteopkbeokiomlaaT
namespace Go.Proofs.Yteopkbeokiomlaa
open Go.RowKit Go.Sort

theorem sok_t (p q : Int) (w : World) (h : okB p q = true) : Calls Try.prog 97 #[fr p q] w fun e w' => e = .returned (.bool true) ∧ Gr w w' :=
  (sok_any p q w).mono fun e w' ⟨he, hg⟩ => ⟨by rw [he, h], hg⟩
theorem sok_f (p q : Int) (w : World) (h : okB p q = false) : Calls Try.prog 97 #[fr p q] w fun e w' => e = .returned (.bool false) ∧ Gr w w' :=
  (sok_any p q w).mono fun e w' ⟨he, hg⟩ => ⟨by rw [he, h], hg⟩
/-- What is told of a fraction that is calculated. -/
theorem told_rV (f : Nat) (cap : Array Value) (n d : Int) (w : World) (hen : ∀ w, (callFunc f cap).run Try.prog w = .ok (.enter f cap) w)
    (h0 : okB (redP n d) (redQ n d) = true → ∀ w', Gr w w' → Calls Try.prog f cap w' fun e w'' => e = .returned (fr (redP n d) (redQ n d)) ∧ Gr w' w'')
    (h1 : okB (redP n d) (redQ n d) = false → ∀ w', Gr w w' → Calls Try.prog f cap w' fun e w'' => (∃ x y, e = .panicked [{ v := .iface 194 (fr x y), recovered := false }]) ∧ Gr w' w'') :
    Calls Try.prog 67 #[.func (.func f) #[] cap] w fun e w' => e = .returned (.tuple #[fr (rP n d) (rQ n d), .int .i64 (rC n d)]) ∧ Gr w w' := by
  unfold rP rQ rC
  cases k1 : okB (redP n d) (redQ n d) with
  | false => exact told_great_F f cap w hen (h1 k1)
  | true => exact told_ok_F f cap _ _ w hen (h0 k1)
set_option maxRecDepth 20000 in
set_option maxHeartbeats 400000 in
theorem iWidth_no (a b c d : Int) (w : World) (h : spB a b c d = false) :
    Calls Try.prog 16 #[sp a b c d] w fun e w' => e = .returned (.tuple #[fr 0 0, .int .i64 1]) ∧ Gr w w' := by
  have h := hid h
  go_enter Try.func16, Try.ntmps16
  go_wp2_with fail
  refine (iSpan_f _ _ _ _ _ h.out).mono ?_
  rintro e w1 ⟨rfl, hg1⟩
  obtain ⟨x1_0, x1_1, hz1, g1⟩ := alloc2 hg1
  obtain ⟨_, _, _, _⟩ := cells4 x1_0
  have _ := fz x1_0
  have _ := ltb x1_0
  obtain ⟨_, _⟩ := cells2 x1_1
  have _ := fz x1_1
  have _ := ltb x1_1
  have X1_0 := hid x1_0; clear x1_0
  have X1_1 := hid x1_1; clear x1_1
  have G1 := hid (g1)
  clear hg1 g1
  go_wp2
  refine bodyPost_ret (v := .tuple #[fr 0 0, .int .i64 1]) (by simp [results, Try.results16, go_sem, *]) rfl ⟨rfl, ?_⟩
  exact ((G1.out).setCell (by simp <;> omega) _).setCell (by simp <;> omega) _
set_option maxRecDepth 20000 in
set_option maxHeartbeats 400000 in
theorem sWidth_no (a b c d : Int) (w : World) (h : spB a b c d = false) :
    Calls Try.prog 14 #[sp a b c d] w fun e w' => e = .returned (.tuple #[fr 0 0, .int .i64 1]) ∧ Gr w w' := by
  have h := hid h
  go_enter Try.func14, Try.ntmps14
  go_wp2_with fail
  refine (sSpan_f _ _ _ _ _ _ (alloc2 (Gr.refl _)).1 h.out).mono ?_
  rintro e w1 ⟨rfl, hg1⟩
  obtain ⟨x1_0, x1_1, hz1, g1⟩ := alloc2 hg1
  obtain ⟨_, _, _, _⟩ := cells4 x1_0
  have _ := fz x1_0
  have _ := ltb x1_0
  obtain ⟨_, _⟩ := cells2 x1_1
  have _ := fz x1_1
  have _ := ltb x1_1
  have X1_0 := hid x1_0; clear x1_0
  have X1_1 := hid x1_1; clear x1_1
  have G1 := hid (g1)
  clear hg1 g1
  go_wp2
  refine bodyPost_ret (v := .tuple #[fr 0 0, .int .i64 1]) (by simp [results, Try.results14, go_sem, *]) rfl ⟨rfl, ?_⟩
  exact ((G1.out).setCell (by simp <;> omega) _).setCell (by simp <;> omega) _
set_option maxRecDepth 20000 in
set_option maxHeartbeats 400000 in
theorem sWidth_yes (a b c d : Int) (w : World) (h : spB a b c d = true) :
    Calls Try.prog 14 #[sp a b c d] w fun e w' => e = .returned (.tuple #[fr (rP (c*b-a*d) (d*b)) (rQ (c*b-a*d) (d*b)), .int .i64 (rC (c*b-a*d) (d*b))]) ∧ Gr w w' := by
  obtain ⟨b1, b2, b3, b4⟩ := okB_bd (spB_ok h).1
  obtain ⟨d1, d2, d3, d4⟩ := okB_bd (spB_ok h).2.1
  have h := hid h
  go_enter Try.func14, Try.ntmps14
  go_wp2_with fail
  refine (sSpan_t _ _ _ _ _ _ (alloc2 (Gr.refl _)).1 h.out).mono ?_
  rintro e w1 ⟨rfl, hg1⟩
  obtain ⟨x1_0, x1_1, hz1, g1⟩ := alloc2 hg1
  obtain ⟨_, _, _, _⟩ := cells4 x1_0
  have _ := fz x1_0
  have _ := ltb x1_0
  obtain ⟨_, _⟩ := cells2 x1_1
  have _ := fz x1_1
  have _ := ltb x1_1
  have X1_0 := hid x1_0; clear x1_0
  have X1_1 := hid x1_1; clear x1_1
  have G1 := hid (g1)
  clear hg1 g1
  go_wp2_with fail
  refine (sl01Sub _ _ _ _ _ d1 d2 d3 d4 b1 b2 b3 b4).mono ?_
  rintro e w2 ⟨rfl, hg2⟩
  have x2_1 := hg2.keep X1_0.out
  have x2_2 := hg2.keep X1_1.out
  obtain ⟨_, _, _, _⟩ := cells4 x2_1
  have _ := fz x2_1
  have _ := ltb x2_1
  obtain ⟨_, _⟩ := cells2 x2_2
  have _ := fz x2_2
  have _ := ltb x2_2
  have X2_1 := hid x2_1; clear x2_1
  have X2_2 := hid x2_2; clear x2_2
  have G2 := hid (G1.out.trans hg2)
  clear hg2
  go_wp2
  refine bodyPost_ret (v := .tuple #[fr (rP (c*b-a*d) (d*b)) (rQ (c*b-a*d) (d*b)), .int .i64 (rC (c*b-a*d) (d*b))]) (by simp [results, Try.results14, go_sem, *]) rfl ⟨rfl, ?_⟩
  exact ((G2.out).setCell (by simp <;> omega) _).setCell (by simp <;> omega) _
/-! InSpan -/
def liesB (a b c d p q : Int) : Bool := decide (cmpI a b p q ≤ 0) && decide (cmpI p q c d ≤ 0)
end Go.Proofs.Yteopkbeokiomlaa
