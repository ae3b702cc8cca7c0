/- READERS: the span of a reading, of both sides; a span widened. -/
import Derived.Test.YtpadjkgbeijkpaaUn
import Derived.Test.YtpadjkgbeijkpaaWf
import Derived.Test.YtpadjkgbeijkpaaNm
import Derived.Test.YtpadjkgbeijkpaaRq
namespace Go.Proofs.Ytpadjkgbeijkpaa
open Go.RowKit Go.Sort

set_option maxRecDepth 20000 in
set_option maxHeartbeats 400000 in
theorem iWiden (a b c d p q : Int) (w : World) (h1 : okB a b = true) (h2 : okB c d = true) (h3 : okB p q = true) (k1 : okB (redP (a*q-p*b) (b*q)) (redQ (a*q-p*b) (b*q)) = true) (k2 : okB (redP (c*q+p*d) (d*q)) (redQ (c*q+p*d) (d*q)) = true) :
    Calls Try.prog 159 #[sp a b c d, fr p q] w fun e w' => e = .returned (sp (redP (a*q-p*b) (b*q)) (redQ (a*q-p*b) (b*q)) (redP (c*q+p*d) (d*q)) (redQ (c*q+p*d) (d*q))) ∧ Gr w w' := by
  have h1 := hid h1
  have h2 := hid h2
  have h3 := hid h3
  have k1 := hid k1
  have k2 := hid k2
  go_enter Try.func159, Try.ntmps159
  go_wp2_with fail
  refine wp_reg0 9 (by kernel_rfl) (by kernel_rfl) ?_
  apply Exists.intro
  refine ⟨fun wb hb => ?_, ?_⟩
  · obtain ⟨y0, y1, y2, _, _⟩ := alloc3 (Gr.refl _)
    obtain ⟨_, _, _, _⟩ := hb.at4 y0
    obtain ⟨_, _⟩ := hb.at2 y1
    obtain ⟨_, _, _, _⟩ := hb.at4 y2
    clear y0 y1 y2
    simp only [headOps, List.contains, List.elem, reduceIte, Bool.false_eq_true]
    repeat (first | go_big_quiet_step (first | (go_at_call 85; with_reducible exact Calls.of_gr (minus_yes a b p q _ h1.out h3.out k1.out)) | (go_at_call 141; with_reducible exact Calls.of_gr (plus_yes c d p q _ h2.out h3.out k2.out))) | quiet_step (fail))
    exact wpQuiet_nil rfl
  intro w1 hg1
  obtain ⟨x1_0, x1_1, x1_2, hz1, g1⟩ := alloc3 hg1
  obtain ⟨_, _, _, _⟩ := cells4 x1_0
  have _ := fz x1_0
  have _ := ltb x1_0
  obtain ⟨_, _⟩ := cells2 x1_1
  have _ := fz x1_1
  have _ := ltb x1_1
  obtain ⟨_, _, _, _⟩ := cells4 x1_2
  have _ := fz x1_2
  have _ := ltb x1_2
  have X1_0 := hid x1_0; clear x1_0
  have X1_1 := hid x1_1; clear x1_1
  have X1_2 := hid x1_2; clear x1_2
  have G1 := hid (g1)
  clear hg1 g1
  go_wp2
  refine bodyPost_ret (v := sp (redP (a*q-p*b) (b*q)) (redQ (a*q-p*b) (b*q)) (redP (c*q+p*d) (d*q)) (redQ (c*q+p*d) (d*q))) (by simp [results, Try.results159, go_sem, *]) rfl ⟨rfl, ?_⟩
  exact ((((G1.out).setCell (by simp <;> omega) _).setCell (by simp <;> omega) _).setCell (by simp <;> omega) _).setCell (by simp <;> omega) _
set_option maxRecDepth 20000 in
set_option maxHeartbeats 400000 in
theorem iWiden_b1 (a b c d p q : Int) (w : World) (h1 : okB a b = true) (h3 : okB p q = true) (k1 : okB (redP (a*q-p*b) (b*q)) (redQ (a*q-p*b) (b*q)) = false) :
    Calls Try.prog 159 #[sp a b c d, fr p q] w fun e w' => (∃ x y, e = .panicked [{ v := .iface 183 (fr x y), recovered := false }]) ∧ Gr w w' := by
  have h1 := hid h1
  have h3 := hid h3
  have k1 := hid k1
  go_enter Try.func159, Try.ntmps159
  go_wp2_with fail
  refine wp_regP 3 [7, 8, 9] (by kernel_rfl) (by kernel_rfl) rfl ?_
  apply Exists.intro
  refine ⟨85, #[fr a b, fr p q], fun wb hb => ?_, ?_⟩
  · obtain ⟨y0, y1, y2, _, _⟩ := alloc3 (Gr.refl _)
    obtain ⟨_, _, _, _⟩ := hb.at4 y0
    obtain ⟨_, _⟩ := hb.at2 y1
    obtain ⟨_, _, _, _⟩ := hb.at4 y2
    clear y0 y1 y2
    simp only [headOps, List.contains, List.elem, List.length_cons, List.length_nil, Nat.zero_add, Nat.reduceAdd, Nat.reduceBEq, reduceIte, Bool.false_eq_true, dumOp]
    repeat (first | go_big_quiet_step (first | (fail)) | quiet_step (fail))
    exact wpQuiet_nil rfl
  refine ⟨fun w' => by kernel_rfl, fun w' hg' => (minus_no _ _ _ _ _ h1.out h3.out k1.out).mono fun e w2 ⟨⟨x, y, he⟩, hg2⟩ => ⟨_, he, fun a' ha' => ⟨ha', ⟨x, y, rfl⟩, (((((Gr.refl _).al _).al _).al _).trans hg').trans hg2⟩⟩⟩
set_option maxRecDepth 20000 in
set_option maxHeartbeats 400000 in
theorem iWiden_b2 (a b c d p q : Int) (w : World) (h1 : okB a b = true) (h2 : okB c d = true) (h3 : okB p q = true) (k1 : okB (redP (a*q-p*b) (b*q)) (redQ (a*q-p*b) (b*q)) = true) (k2 : okB (redP (c*q+p*d) (d*q)) (redQ (c*q+p*d) (d*q)) = false) :
    Calls Try.prog 159 #[sp a b c d, fr p q] w fun e w' => (∃ x y, e = .panicked [{ v := .iface 183 (fr x y), recovered := false }]) ∧ Gr w w' := by
  have h1 := hid h1
  have h2 := hid h2
  have h3 := hid h3
  have k1 := hid k1
  have k2 := hid k2
  go_enter Try.func159, Try.ntmps159
  go_wp2_with fail
  refine wp_regP 7 [8, 9] (by kernel_rfl) (by kernel_rfl) rfl ?_
  apply Exists.intro
  refine ⟨141, #[fr c d, fr p q], fun wb hb => ?_, ?_⟩
  · obtain ⟨y0, y1, y2, _, _⟩ := alloc3 (Gr.refl _)
    obtain ⟨_, _, _, _⟩ := hb.at4 y0
    obtain ⟨_, _⟩ := hb.at2 y1
    obtain ⟨_, _, _, _⟩ := hb.at4 y2
    clear y0 y1 y2
    simp only [headOps, List.contains, List.elem, List.length_cons, List.length_nil, Nat.zero_add, Nat.reduceAdd, Nat.reduceBEq, reduceIte, Bool.false_eq_true, dumOp]
    repeat (first | go_big_quiet_step (first | (go_at_call 85; with_reducible exact Calls.of_gr (minus_yes a b p q _ h1.out h3.out k1.out))) | quiet_step (fail))
    exact wpQuiet_nil rfl
  refine ⟨fun w' => by kernel_rfl, fun w' hg' => (plus_no _ _ _ _ _ h2.out h3.out k2.out).mono fun e w2 ⟨⟨x, y, he⟩, hg2⟩ => ⟨_, he, fun a' ha' => ⟨ha', ⟨x, y, rfl⟩, (((((Gr.refl _).al _).al _).al _).trans hg').trans hg2⟩⟩⟩
/-- The span of a reading. -/
def spnV (n b u : Int) : Value := sp (redP (2 * (n - b) - u) 2) (redQ (2 * (n - b) - u) 2) (redP (2 * (n - b) + u) 2) (redQ (2 * (n - b) + u) 2)
theorem half_eq {m u p q : Int} (hq : 0 < q) (hm1 : -1000060 ≤ m) (hm2 : m ≤ 1000060) (hu1 : 1 ≤ u) (hu2 : u ≤ 20) (hq2 : q ≤ 2) (hp : p * 2 = u * q) :
    (redP (m * q - p * 1) (1 * q) = redP (2 * m - u) 2 ∧ redQ (m * q - p * 1) (1 * q) = redQ (2 * m - u) 2) ∧ (redP (m * q + p * 1) (1 * q) = redP (2 * m + u) 2 ∧ redQ (m * q + p * 1) (1 * q) = redQ (2 * m + u) 2) ∧ okB (redP (2 * m - u) 2) (redQ (2 * m - u) 2) = true ∧ okB (redP (2 * m + u) 2) (redQ (2 * m + u) 2) = true := by
  have o1 : okB (redP (2 * m - u) 2) (redQ (2 * m - u) 2) = true := ok_red (by omega) (by omega) (by omega) (by omega)
  have o2 : okB (redP (2 * m + u) 2) (redQ (2 * m + u) 2) = true := ok_red (by omega) (by omega) (by omega) (by omega)
  rcases (show q = 1 ∨ q = 2 by omega) with rfl | rfl
  · have o3 : okB (redP (m * 1 - p * 1) (1 * 1)) (redQ (m * 1 - p * 1) (1 * 1)) = true := ok_red (by omega) (by omega) (by omega) (by omega)
    have o4 : okB (redP (m * 1 + p * 1) (1 * 1)) (redQ (m * 1 + p * 1) (1 * 1)) = true := ok_red (by omega) (by omega) (by omega) (by omega)
    exact ⟨red_uni (by omega) (by omega) o3 o1 (by omega), red_uni (by omega) (by omega) o4 o2 (by omega), o1, o2⟩
  · have o3 : okB (redP (m * 2 - p * 1) (1 * 2)) (redQ (m * 2 - p * 1) (1 * 2)) = true := ok_red (by omega) (by omega) (by omega) (by omega)
    have o4 : okB (redP (m * 2 + p * 1) (1 * 2)) (redQ (m * 2 + p * 1) (1 * 2)) = true := ok_red (by omega) (by omega) (by omega) (by omega)
    exact ⟨red_uni (by omega) (by omega) o3 o1 (by omega), red_uni (by omega) (by omega) o4 o2 (by omega), o1, o2⟩
theorem half_q {u : Int} (hu1 : 1 ≤ u) (hu2 : u ≤ 20) : okB (redP u 2) (redQ u 2) = true ∧ redQ u 2 ≤ 2 ∧ 0 < redQ u 2 ∧ redP u 2 * 2 = u * redQ u 2 := by
  have ho : okB (redP u 2) (redQ u 2) = true := ok_red (by omega) (by omega) (by omega) (by omega)
  refine ⟨ho, ?_, by have := (okB_bd ho).1; omega, red_mul (by omega)⟩
  have h : redQ u 2 = (2 : Int).tdiv (Int.gcd u 2) := by unfold redQ; rw [if_neg (by omega)]
  rw [h]
  exact Int.le_trans (Int.tdiv_le_self _ (by omega)) (by omega)
set_option maxRecDepth 20000 in
set_option maxHeartbeats 1000000 in
theorem iSpanOf (b u : Int) (o : Bool) (n : Int) (w : World) (hb1 : -50 ≤ b) (hb2 : b ≤ 50) (hu1 : 1 ≤ u) (hu2 : u ≤ 20) (hn1 : -1000000 ≤ n) (hn2 : n ≤ 1000000) :
    Calls Try.prog 126 #[gs b u o, .int .i64 n] w fun e w' => e = .returned (spnV n b u) ∧ Gr w w' := by
  obtain ⟨oh, oq, op, om⟩ := half_q hu1 hu2
  obtain ⟨⟨e1, e2⟩, ⟨e3, e4⟩, o1, o2⟩ := half_eq (m := n - b) op (by omega) (by omega) hu1 hu2 oq om
  have H1 : okB (n - b) 1 = true := okB_iff.2 ⟨by omega, by omega, by omega, by omega, by simp⟩
  have HW := hid fun (w : World) => iWiden (n - b) 1 (n - b) 1 (redP u 2) (redQ u 2) w H1 H1 oh (by rw [e1, e2]; exact o1) (by rw [e3, e4]; exact o2)
  rw [e1, e2, e3, e4] at HW
  have HL := hid fun (w : World) => low_ok u 2 w (by omega) (by omega) (by omega) (by omega) (by omega) oh
  have HV : Hid (spnV n b u = sp (redP (2 * (n - b) - u) 2) (redQ (2 * (n - b) - u) 2) (redP (2 * (n - b) + u) 2) (redQ (2 * (n - b) + u) 2)) := hid rfl
  obtain ⟨p, hp⟩ : ∃ p, redP u 2 = p := ⟨_, rfl⟩
  obtain ⟨q, hq⟩ : ∃ q, redQ u 2 = q := ⟨_, rfl⟩
  rw [hp, hq] at HW HL
  clear oh oq op om e1 e2 e3 e4 o1 o2 H1 hp hq
  obtain ⟨x1, hx1⟩ : ∃ x, redP (2 * (n - b) - u) 2 = x := ⟨_, rfl⟩
  obtain ⟨x2, hx2⟩ : ∃ x, redQ (2 * (n - b) - u) 2 = x := ⟨_, rfl⟩
  obtain ⟨x3, hx3⟩ : ∃ x, redP (2 * (n - b) + u) 2 = x := ⟨_, rfl⟩
  obtain ⟨x4, hx4⟩ : ∃ x, redQ (2 * (n - b) + u) 2 = x := ⟨_, rfl⟩
  rw [hx1, hx2, hx3, hx4] at HW HV
  clear hx1 hx2 hx3 hx4
  rw [HV.out]
  clear HV
  have hwr : IntKind.i64.wrap (n - b) = n - b := IntWalk.i64_in _ (by omega)
  obtain ⟨m, hm⟩ : ∃ m, n - b = m := ⟨_, rfl⟩
  have hm1 : -1000000000 ≤ m := by omega
  have hm2 : m ≤ 1000000000 := by omega
  rw [hm] at HW hwr
  go_enter Try.func126, Try.ntmps126
  go_wp2_with fail
  refine (iwhole m _ hm1 hm2).mono ?_
  rintro e w1 ⟨rfl, hg1⟩
  obtain ⟨x1_0, x1_1, hz1, g1⟩ := alloc2 hg1
  obtain ⟨_, _, _⟩ := cells3 x1_0
  have _ := fz x1_0
  have _ := ltb x1_0
  obtain ⟨_, _, _, _⟩ := cells4 x1_1
  have _ := fz x1_1
  have _ := ltb x1_1
  have X1_0 := hid x1_0; clear x1_0
  have X1_1 := hid x1_1; clear x1_1
  have G1 := hid (g1)
  clear hg1 g1
  go_wp2_with fail
  refine wp_reg0 8 (by kernel_rfl) (by kernel_rfl) ?_
  apply Exists.intro
  refine ⟨fun wb hb => ?_, ?_⟩
  · obtain ⟨_, _, _⟩ := hb.at3 (((Gr.refl _).al _).keep X1_0.out)
    obtain ⟨_, _, _, _⟩ := hb.at4 (((Gr.refl _).al _).keep X1_1.out)
    obtain ⟨_, _⟩ := hb.at2 (alloc1 (Gr.refl _)).1
    simp only [headOps, List.contains, List.elem, reduceIte, Bool.false_eq_true]
    repeat (first | go_big_quiet_step (first | (go_at_call 140; with_reducible exact Calls.of_gr (HL.out _)) | (go_at_call 159; with_reducible exact Calls.of_gr (HW.out _))) | quiet_step (fail))
    exact wpQuiet_nil rfl
  intro w2 hg2
  obtain ⟨x2_0, hz2, g2⟩ := alloc1 hg2
  have x2_1 := g2.keep X1_0.out
  have x2_2 := g2.keep X1_1.out
  obtain ⟨_, _, _⟩ := cells3 x2_1
  have _ := fz x2_1
  have _ := ltb x2_1
  obtain ⟨_, _, _, _⟩ := cells4 x2_2
  have _ := fz x2_2
  have _ := ltb x2_2
  obtain ⟨_, _⟩ := cells2 x2_0
  have _ := fz x2_0
  have _ := ltb x2_0
  have X2_1 := hid x2_1; clear x2_1
  have X2_2 := hid x2_2; clear x2_2
  have X2_0 := hid x2_0; clear x2_0
  have G2 := hid (G1.out.trans g2)
  clear hg2 g2
  go_wp2
  refine bodyPost_ret (v := sp x1 x2 x3 x4) (by simp [results, Try.results126, go_sem, *]) rfl ⟨rfl, ?_⟩
  exact ((((G2.out).setCell (by simp <;> omega) _).setCell (by simp <;> omega) _).setCell (by simp <;> omega) _).setCell (by simp <;> omega) _
theorem sred_ok (p q : Int) (w : World) (hq : q ≠ 0) (p1 : -4000000000000000000 ≤ p) (p2 : p ≤ 4000000000000000000) (q1 : -4000000000000000000 ≤ q) (q2 : q ≤ 4000000000000000000) (hk : okB (redP p q) (redQ p q) = true) :
    Calls Try.prog 119 #[.int .i64 p, .int .i64 q] w fun e w' => e = .returned (.tuple #[fr (redP p q) (redQ p q), .int .i64 0]) ∧ Gr w w' :=
  (sred_any p q w hq p1 p2 q1 q2).mono fun e w' ⟨he, hg⟩ => ⟨by rw [he]; unfold rP rQ rC; rw [if_pos hk, if_pos hk, if_pos hk], hg⟩
set_option maxRecDepth 20000 in
set_option maxHeartbeats 1000000 in
theorem sSpanOf (s : ByteArray) (b u : Int) (o : Bool) (n : Int) (g k : Nat) (w : World) (hX : Hid (CelRq w ⟨g, k, none⟩ ⟨s, b, u, o⟩)) (hb1 : -50 ≤ b) (hb2 : b ≤ 50) (hu1 : 1 ≤ u) (hu2 : u ≤ 20) (hn1 : -1000000 ≤ n) (hn2 : n ≤ 1000000) :
    Calls Try.prog 68 #[.pointer (some ⟨g, k, none⟩), .int .i64 n] w fun e w' => e = .returned (spnV n b u) ∧ Gr w w' := by
  have o1 : okB (redP (2 * (n - b) - u) 2) (redQ (2 * (n - b) - u) 2) = true := ok_red (by omega) (by omega) (by omega) (by omega)
  have o2 : okB (redP (2 * (n - b) + u) 2) (redQ (2 * (n - b) + u) 2) = true := ok_red (by omega) (by omega) (by omega) (by omega)
  have H1 := hid fun (w : World) => sred_ok (2 * (n - b) - u) 2 w (by omega) (by omega) (by omega) (by omega) (by omega) o1
  have H2 := hid fun (w : World) => sred_ok (2 * (n - b) + u) 2 w (by omega) (by omega) (by omega) (by omega) (by omega) o2
  have HV : Hid (spnV n b u = sp (redP (2 * (n - b) - u) 2) (redQ (2 * (n - b) - u) 2) (redP (2 * (n - b) + u) 2) (redQ (2 * (n - b) + u) 2)) := hid rfl
  clear o1 o2
  obtain ⟨x1, hx1⟩ : ∃ x, redP (2 * (n - b) - u) 2 = x := ⟨_, rfl⟩
  obtain ⟨x2, hx2⟩ : ∃ x, redQ (2 * (n - b) - u) 2 = x := ⟨_, rfl⟩
  obtain ⟨x3, hx3⟩ : ∃ x, redP (2 * (n - b) + u) 2 = x := ⟨_, rfl⟩
  obtain ⟨x4, hx4⟩ : ∃ x, redQ (2 * (n - b) + u) 2 = x := ⟨_, rfl⟩
  rw [hx1, hx2] at H1
  rw [hx3, hx4] at H2
  rw [hx1, hx2, hx3, hx4] at HV
  clear hx1 hx2 hx3 hx4
  rw [HV.out]
  clear HV
  have hwr1 : IntKind.i64.wrap (n - b) = n - b := IntWalk.i64_in _ (by omega)
  have hwr2 : IntKind.i64.wrap (2 * (n - b)) = 2 * (n - b) := IntWalk.i64_in _ (by omega)
  have hwr3 : IntKind.i64.wrap (2 * (n - b) - u) = 2 * (n - b) - u := IntWalk.i64_in _ (by omega)
  have hwr4 : IntKind.i64.wrap (2 * (n - b) + u) = 2 * (n - b) + u := IntWalk.i64_in _ (by omega)
  have A0 := hid ((Gr.refl w).al (.cells #[.int .i64 0, .int .i64 0, .int .i64 0, .int .i64 0] 109))
  have X0 := hid (alloc1 (w := w) (A := .cells #[.int .i64 0, .int .i64 0, .int .i64 0, .int .i64 0] 109) (Gr.refl _)).1
  have hk0 := hX.out.keep A0.out
  have d1 := hk0.h1; have d2 := hk0.h2
  clear hk0
  go_enter Try.func68, Try.ntmps68
  go_wp2_with fail
  refine (H1.out _).mono ?_
  rintro e w1 ⟨rfl, hg1⟩
  clear d1 d2
  have A1 := hid ((A0.out.trans hg1).al (.cells #[.int .i64 x1, .int .i64 x2] 33))
  have X1 := hid (((Gr.refl w1).al (.cells #[.int .i64 x1, .int .i64 x2] 33)).keep (hg1.keep X0.out))
  have Y1 := hid (alloc1 (w := w1) (A := .cells #[.int .i64 x1, .int .i64 x2] 33) (Gr.refl _)).1
  have hk0 := hX.out.keep (A0.out.trans hg1)
  have hk1 := hX.out.keep A1.out
  have d1 := hk0.h1; have d2 := hk0.h2; have d3 := hk1.h1; have d4 := hk1.h2
  clear hk0 hk1 hg1
  go_wp2_with fail
  refine (H2.out _).mono ?_
  rintro e w2 ⟨rfl, hg2⟩
  clear d1 d2 d3 d4
  have A2 := hid ((A1.out.trans hg2).al (.cells #[.int .i64 x3, .int .i64 x4] 33))
  have X2 := hid (((Gr.refl w2).al (.cells #[.int .i64 x3, .int .i64 x4] 33)).keep (hg2.keep X1.out))
  have Y2 := hid (((Gr.refl w2).al (.cells #[.int .i64 x3, .int .i64 x4] 33)).keep (hg2.keep Y1.out))
  have Z2 := hid (alloc1 (w := w2) (A := .cells #[.int .i64 x3, .int .i64 x4] 33) (Gr.refl _)).1
  clear hg2
  obtain ⟨_, _, _, _⟩ := cells4 X2.out
  obtain ⟨_, _⟩ := cells2 Y2.out
  obtain ⟨_, _⟩ := cells2 Z2.out
  have _ := fz X2.out
  have _ := ltb X2.out; have _ := ltb Y2.out; have _ := ltb Z2.out
  have hne := ltb Y1.out
  go_wp2_with fail
  refine bodyPost_ret (v := sp x1 x2 x3 x4) (by simp [results, Try.results68, go_sem, *]) rfl ⟨rfl, ?_⟩
  exact ((((A2.out).setCell (by simp <;> omega) _).setCell (by simp <;> omega) _).setCell (by simp <;> omega) _).setCell (by simp <;> omega) _
end Go.Proofs.Ytpadjkgbeijkpaa
