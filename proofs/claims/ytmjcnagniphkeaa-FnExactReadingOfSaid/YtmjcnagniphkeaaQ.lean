/- WALKS: a span is looked at, by the program and by the reference. -/
import Derived.Test.YtmjcnagniphkeaaN
namespace Go.Proofs.Ytmjcnagniphkeaa
open Go.RowKit Go.Sort

def spB (a b c d : Int) : Bool := okB a b && okB c d && decide (cmpI a b c d ≤ 0)

set_option maxRecDepth 20000 in
set_option maxHeartbeats 400000 in
theorem iSpan_n1 (a b c d : Int) (w : World) (h1 : okB a b = false) :
    Calls Try.prog 75 #[sp a b c d] w fun e w' => e = .returned (.bool false) ∧ Gr w w' := by
  go_enter Try.func75, Try.ntmps75
  go_wp2_with (go_at_call 103; refine (iok_any _ _ _).mono ?_; rintro e w1 ⟨rfl, hg1⟩; obtain ⟨_, _, G1⟩ := alloc1 hg1; have G1 := hid G1; clear hg1)
  go_ret
  exact ⟨rfl, G1.out⟩
set_option maxRecDepth 20000 in
set_option maxHeartbeats 400000 in
theorem iSpan_n2 (a b c d : Int) (w : World) (h1 : okB a b = true) (h2 : okB c d = false) :
    Calls Try.prog 75 #[sp a b c d] w fun e w' => e = .returned (.bool false) ∧ Gr w w' := by
  go_enter Try.func75, Try.ntmps75
  go_wp2_with fail
  refine (iok_any _ _ _).mono ?_
  rintro e w1 ⟨rfl, hg1⟩
  rw [h1]
  obtain ⟨x2, _, G1⟩ := alloc1 hg1
  obtain ⟨_, _, _, _⟩ := cells4 x2
  have _ := fz x2
  have G1 := hid G1
  clear hg1 x2
  go_wp2_with fail
  refine (iok_any _ _ _).mono ?_
  rintro e w2 ⟨rfl, hg2⟩
  rw [h2]
  have G2 := hid (G1.out.trans hg2)
  clear hg2
  go_wp2
  go_ret
  exact ⟨rfl, G2.out⟩
set_option maxRecDepth 20000 in
set_option maxHeartbeats 400000 in
theorem iSpan_yes (a b c d : Int) (w : World) (h1 : okB a b = true) (h2 : okB c d = true) :
    Calls Try.prog 75 #[sp a b c d] w fun e w' => e = .returned (.bool (decide (cmpI a b c d ≤ 0))) ∧ Gr w w' := by
  have K1 := hid h1
  have K2 := hid h2
  go_enter Try.func75, Try.ntmps75
  go_wp2_with fail
  refine (iok_any _ _ _).mono ?_
  rintro e w1 ⟨rfl, hg1⟩
  rw [h1]
  obtain ⟨x2, _, G1⟩ := alloc1 hg1
  have X2 := hid x2
  obtain ⟨_, _, _, _⟩ := cells4 x2
  have G1 := hid G1
  clear hg1 x2
  go_wp2_with fail
  refine (iok_any _ _ _).mono ?_
  rintro e w2 ⟨rfl, hg2⟩
  rw [h2]
  have x3 := hg2.keep X2.out
  obtain ⟨_, _, _, _⟩ := cells4 x3
  have G2 := hid (G1.out.trans hg2)
  clear hg2 x3
  go_wp2_with (go_at_call 140; refine (iord _ _ _ _ _ K1.out K2.out).mono ?_; rintro e w3 ⟨rfl, hg3⟩; have G3 := hid (G2.out.trans hg3); clear hg3)
  go_ret
  exact ⟨rfl, G3.out⟩
set_option maxRecDepth 20000 in
set_option maxHeartbeats 400000 in
theorem sSpanAt_n1 (a b c d : Int) (w : World) (k : Nat) (x : w.heap[k]? = some (.cells #[.int .i64 a, .int .i64 b, .int .i64 c, .int .i64 d] 36)) (h1 : okB a b = false) :
    Calls Try.prog 69 #[.pointer (some ⟨k, 0, none⟩)] w fun e w' => e = .returned (.bool false) ∧ Gr w w' := by
  have X := hid x; clear x
  have H1 := hid h1; clear h1
  go_enter Try.func69, Try.ntmps69
  go_wp2_with fail
  refine wp_reg0 24 (by kernel_rfl) (by kernel_rfl) ?_
  apply Exists.intro
  refine ⟨fun wb hb => ?_, ?_⟩
  · obtain ⟨_, _, _, _⟩ := hb.at4 X.out
    have h1 := H1.out
    simp only [headOps, List.contains, List.elem, reduceIte, Bool.false_eq_true]
    repeat (first | go_big_quiet_step (first | (go_at_call 99; exact Calls.of_gr (sok_any _ _ _))) | quiet_step (fail))
    exact wpQuiet_nil rfl
  intro w1 hg1
  have G1 := hid hg1
  clear hg1
  go_wp2
  go_ret
  exact ⟨rfl, G1.out⟩
set_option maxRecDepth 20000 in
set_option maxHeartbeats 400000 in
theorem sSpanAt_n2 (a b c d : Int) (w : World) (k : Nat) (x : w.heap[k]? = some (.cells #[.int .i64 a, .int .i64 b, .int .i64 c, .int .i64 d] 36)) (h1 : okB a b = true) (h2 : okB c d = false) :
    Calls Try.prog 69 #[.pointer (some ⟨k, 0, none⟩)] w fun e w' => e = .returned (.bool false) ∧ Gr w w' := by
  have X := hid x; clear x
  have H1 := hid h1; clear h1
  have H2 := hid h2; clear h2
  go_enter Try.func69, Try.ntmps69
  go_wp2_with fail
  refine wp_reg0 24 (by kernel_rfl) (by kernel_rfl) ?_
  apply Exists.intro
  refine ⟨fun wb hb => ?_, ?_⟩
  · obtain ⟨_, _, _, _⟩ := hb.at4 X.out
    have h1 := H1.out; have h2 := H2.out
    simp only [headOps, List.contains, List.elem, reduceIte, Bool.false_eq_true]
    repeat (first | go_big_quiet_step (first | (go_at_call 99; exact Calls.of_gr (sok_any _ _ _))) | quiet_step (fail))
    exact wpQuiet_nil rfl
  intro w1 hg1
  have G1 := hid hg1
  clear hg1
  go_wp2
  go_ret
  exact ⟨rfl, G1.out⟩
set_option maxRecDepth 20000 in
set_option maxHeartbeats 400000 in
theorem sSpanAt_yes (a b c d : Int) (w : World) (k : Nat) (x : w.heap[k]? = some (.cells #[.int .i64 a, .int .i64 b, .int .i64 c, .int .i64 d] 36)) (h1 : okB a b = true) (h2 : okB c d = true) :
    Calls Try.prog 69 #[.pointer (some ⟨k, 0, none⟩)] w fun e w' => e = .returned (.bool (decide (cmpI a b c d ≤ 0))) ∧ Gr w w' := by
  obtain ⟨b1, b2, b3, b4⟩ := okB_bd h1
  obtain ⟨d1, d2, d3, d4⟩ := okB_bd h2
  have Q0 := hid (mul_bd (x := a) (y := d) b3 b4 (by omega) d2)
  have Q2 := hid (mul_bd (x := c) (y := b) d3 d4 (by omega) b2)
  have X := hid x; clear x
  have H1 := hid h1; clear h1
  have H2 := hid h2; clear h2
  clear b1 b2 b3 b4 d1 d2 d3 d4
  go_enter Try.func69, Try.ntmps69
  go_wp2_with fail
  refine wp_reg0 24 (by kernel_rfl) (by kernel_rfl) ?_
  apply Exists.intro
  refine ⟨fun wb hb => ?_, ?_⟩
  · obtain ⟨_, _, _, _⟩ := hb.at4 X.out
    have h1 := H1.out; have h2 := H2.out
    simp only [headOps, List.contains, List.elem, reduceIte, Bool.false_eq_true]
    repeat (first | go_big_quiet_step (first | (go_at_call 99; exact Calls.of_gr (sok_any _ _ _)) | (go_at_call 139; exact Calls.of_gr (scmp _ _ _ _ _ Q0.out.1 Q0.out.2 Q2.out.1 Q2.out.2))) | quiet_step (fail))
    exact wpQuiet_nil rfl
  intro w1 hg1
  have G1 := hid hg1
  clear hg1
  go_wp2
  go_ret
  exact ⟨rfl, G1.out⟩
/-- spec.l01Span -/
theorem sSpanAt (a b c d : Int) (w : World) (k : Nat) (x : w.heap[k]? = some (.cells #[.int .i64 a, .int .i64 b, .int .i64 c, .int .i64 d] 36)) :
    Calls Try.prog 69 #[.pointer (some ⟨k, 0, none⟩)] w fun e w' => e = .returned (.bool (spB a b c d)) ∧ Gr w w' := by
  unfold spB
  cases h1 : okB a b with
  | false => exact sSpanAt_n1 a b c d w k x h1
  | true =>
    cases h2 : okB c d with
    | false => exact sSpanAt_n2 a b c d w k x h1 h2
    | true => exact sSpanAt_yes a b c d w k x h1 h2
theorem iValidSpan (a b c d : Int) (w : World) :
    Calls Try.prog 75 #[sp a b c d] w fun e w' => e = .returned (.bool (spB a b c d)) ∧ Gr w w' := by
  unfold spB
  cases h1 : okB a b with
  | false => exact iSpan_n1 a b c d w h1
  | true =>
    cases h2 : okB c d with
    | false => exact iSpan_n2 a b c d w h1 h2
    | true => exact iSpan_yes a b c d w h1 h2
set_option maxRecDepth 20000 in
set_option maxHeartbeats 400000 in
theorem toSpan_any (a b c d : Int) (w : World) :
    Calls Try.prog 73 #[sp a b c d] w fun e w' => e = .returned (sp a b c d) ∧ Gr w w' := by
  go_enter Try.func73, Try.ntmps73
  go_wp2_with fail
  refine (toFrac_any _ _ _).mono ?_
  rintro e w1 ⟨rfl, hg1⟩
  obtain ⟨x0, x1, x2, hz, G1⟩ := alloc3 hg1
  obtain ⟨_, _, _, _⟩ := cells4 x0
  obtain ⟨_, _, _, _⟩ := cells4 x1
  obtain ⟨_, _, _, _⟩ := cells4 x2
  have _ := fz x1
  have _ := fz x2
  have X0 := hid x0; have X1 := hid x1; have X2 := hid x2
  have G1 := hid G1
  have hz' : w.heap.size + 1 < w1.heap.size := by omega
  have hz'' : w.heap.size < w1.heap.size := by omega
  clear hg1 x0 x1 x2
  go_wp2_with fail
  refine (toFrac_any _ _ _).mono ?_
  rintro e w2 ⟨rfl, hg2⟩
  obtain ⟨_, _⟩ := hg2.same
  have hz2 := hg2.size
  simp at hz2
  have _ : w.heap.size + 1 + 1 < w2.heap.size := by omega
  have _ : w.heap.size + 1 < w2.heap.size := by omega
  have G2 := hid (((G1.out.setCell (by simp; omega) _).setCell (by simp; omega) _).trans hg2)
  clear hg2
  go_wp2_with fail
  refine bodyPost_ret (v := sp a b c d) (by simp [results, Try.results73, go_sem, *]) rfl ⟨rfl, ?_⟩
  exact ((((((G2.out).setCell (by simp <;> omega) _).setCell (by simp <;> omega) _).setCell (by simp <;> omega) _).setCell (by simp <;> omega) _).setCell (by simp <;> omega) _).setCell (by simp <;> omega) _
set_option maxRecDepth 20000 in
set_option maxHeartbeats 400000 in
theorem eqSpan_any (a b c d : Int) (w : World) :
    Calls Try.prog 27 #[sp a b c d, sp a b c d] w fun e w' => e = .returned (.bool true) ∧ Gr w w' := by
  go_enter Try.func27, Try.ntmps27
  go_wp2_with fail
  refine (eqFrac_any _ _ _).mono ?_
  rintro e w1 ⟨rfl, hg1⟩
  obtain ⟨x0, x1, hz, G1⟩ := alloc2 hg1
  obtain ⟨_, _, _, _⟩ := cells4 x0
  obtain ⟨_, _, _, _⟩ := cells4 x1
  have G1 := hid G1
  clear hg1 x0 x1
  go_wp2_with fail
  refine (eqFrac_any _ _ _).mono ?_
  rintro e w2 ⟨rfl, hg2⟩
  have G2 := hid (G1.out.trans hg2)
  clear hg2
  go_wp2
  go_ret
  exact ⟨rfl, G2.out⟩
end Go.Proofs.Ytmjcnagniphkeaa
