/- WALKS: MulSpans, the program: the four products of the ends, the least and the greatest of them. Written by gen_mv.py. -/
import Derived.Test.YteopkbeokiomlaaMu
import Derived.Test.YteopkbeokiomlaaU
namespace Go.Proofs.Yteopkbeokiomlaa
open Go.RowKit Go.Sort

/-- The products of the ends, in their order. -/
def endL (a b c d a' b' c' d' : Int) : List (Int × Int) := [(redP (a*a') (b*b'), redQ (a*a') (b*b')), (redP (a*c') (b*d'), redQ (a*c') (b*d')), (redP (c*a') (d*b'), redQ (c*a') (d*b')), (redP (c*c') (d*d'), redQ (c*c') (d*d'))]
def endR (a b c d a' b' c' d' : Int) : List (Int × Int) := [(redP (a*c') (b*d'), redQ (a*c') (b*d')), (redP (c*a') (d*b'), redQ (c*a') (d*b')), (redP (c*c') (d*d'), redQ (c*c') (d*d'))]
def mulLo (a b c d a' b' c' d' : Int) : Int × Int := (endR a b c d a' b' c' d').foldl mnS (redP (a*a') (b*b'), redQ (a*a') (b*b'))
def mulHi (a b c d a' b' c' d' : Int) : Int × Int := (endR a b c d a' b' c' d').foldl mxS (redP (a*a') (b*b'), redQ (a*a') (b*b'))
set_option maxRecDepth 20000 in
set_option maxHeartbeats 2000000 in
theorem stimes_ok (a b c d a' b' c' d' : Int) (w : World) (h1 : okB a b = true) (h2 : okB c d = true) (h3 : okB a' b' = true) (h4 : okB c' d' = true) (k1 : okB (redP (a*a') (b*b')) (redQ (a*a') (b*b')) = true) (k2 : okB (redP (a*c') (b*d')) (redQ (a*c') (b*d')) = true) (k3 : okB (redP (c*a') (d*b')) (redQ (c*a') (d*b')) = true) (k4 : okB (redP (c*c') (d*d')) (redQ (c*c') (d*d')) = true) :
    Calls Try.prog 78 #[sp a b c d, sp a' b' c' d'] w fun e w' => e = .returned (sp (mulLo a b c d a' b' c' d').1 (mulLo a b c d a' b' c' d').2 (mulHi a b c d a' b' c' d').1 (mulHi a b c d a' b' c' d').2) ∧ Gr w w' := by
  have h1 := hid h1
  have h2 := hid h2
  have h3 := hid h3
  have h4 := hid h4
  have k1 := hid k1
  have k2 := hid k2
  have k3 := hid k3
  have k4 := hid k4
  have HOK : Hid (∀ x ∈ endL a b c d a' b' c' d', okB x.1 x.2 = true) := hid fun x hx => by
    simp only [endL, List.mem_cons, List.not_mem_nil, or_false] at hx
    rcases hx with rfl | rfl | rfl | rfl
    · exact k1.out
    · exact k2.out
    · exact k3.out
    · exact k4.out
  have hMN := fun (c0 : Nat) (A : Option Addr) (w : World) (X : Hid (RdF w A (endL a b c d a' b' c' d'))) => show Calls Try.prog 144 #[.slice A 4 c0, .func (.func 105) #[] #[]] w fun e w' => e = .returned (fr ((endR a b c d a' b' c' d').foldl mnS (redP (a*a') (b*b'), redQ (a*a') (b*b'))).1 ((endR a b c d a' b' c' d').foldl mnS (redP (a*a') (b*b'), redQ (a*a') (b*b'))).2) ∧ Gr w w' from iMinF A c0 (redP (a*a') (b*b'), redQ (a*a') (b*b')) (endR a b c d a' b' c' d') w X (by simp [endR]) HOK.out
  have hMX := fun (c0 : Nat) (A : Option Addr) (w : World) (X : Hid (RdF w A (endL a b c d a' b' c' d'))) => show Calls Try.prog 145 #[.slice A 4 c0, .func (.func 105) #[] #[]] w fun e w' => e = .returned (fr ((endR a b c d a' b' c' d').foldl mxS (redP (a*a') (b*b'), redQ (a*a') (b*b'))).1 ((endR a b c d a' b' c' d').foldl mxS (redP (a*a') (b*b'), redQ (a*a') (b*b'))).2) ∧ Gr w w' from iMaxF A c0 (redP (a*a') (b*b'), redQ (a*a') (b*b')) (endR a b c d a' b' c' d') w X (by simp [endR]) HOK.out
  obtain ⟨L, hL⟩ : ∃ L, mulLo a b c d a' b' c' d' = L := ⟨_, rfl⟩
  obtain ⟨U, hU⟩ : ∃ U, mulHi a b c d a' b' c' d' = U := ⟨_, rfl⟩
  rw [hL, hU]
  change (endR a b c d a' b' c' d').foldl mnS _ = L at hL
  change (endR a b c d a' b' c' d').foldl mxS _ = U at hU
  rw [hL] at hMN
  rw [hU] at hMX
  obtain ⟨p, q⟩ := L
  obtain ⟨r, s⟩ := U
  have HMN := hid hMN; have HMX := hid hMX
  clear hMN hMX hL hU
  go_enter Try.func78, Try.ntmps78
  go_wp2_with fail
  refine wp_regA (b0 := .cells #[.int .i64 (redP (a*a') (b*b')), .int .i64 (redQ (a*a') (b*b')), .int .i64 (redP (a*c') (b*d')), .int .i64 (redQ (a*c') (b*d')), .int .i64 (redP (c*a') (d*b')), .int .i64 (redQ (c*a') (d*b')), .int .i64 (redP (c*c') (d*d')), .int .i64 (redQ (c*c') (d*d'))] 26) (fun b => .slice (some ⟨b, 0, none⟩) 4 4) 21 20 26 (by kernel_rfl) (by kernel_rfl) rfl rfl (by simp) ?_
  apply Exists.intro
  refine ⟨fun wb hb => ?_, fun w' => ?_, ?_⟩
  · obtain ⟨y0, y1, y2, _, _⟩ := alloc3 (Gr.refl _)
    obtain ⟨_, _, _, _⟩ := hb.at4 y0
    obtain ⟨_, _, _, _⟩ := hb.at4 y1
    obtain ⟨_, _, _, _⟩ := hb.at4 y2
    clear y0 y1 y2
    simp only [headOps, List.contains, List.elem, Nat.reduceAdd, Nat.reduceBEq, reduceIte, Bool.false_eq_true, dumOp]
    repeat (first | go_big_quiet_step (first | (go_at_call 111; with_reducible exact Calls.of_gr (times_yes a b a' b' _ h1.out h3.out k1.out)) | (go_at_call 111; with_reducible exact Calls.of_gr (times_yes a b c' d' _ h1.out h4.out k2.out)) | (go_at_call 111; with_reducible exact Calls.of_gr (times_yes c d a' b' _ h2.out h3.out k3.out)) | (go_at_call 111; with_reducible exact Calls.of_gr (times_yes c d c' d' _ h2.out h4.out k4.out))) | quiet_step (fail))
    exact wpQuiet_nil rfl
  · kernel_rfl
  intro w1 nb hg1 hb1 xb
  obtain ⟨_, _, y2, _, _⟩ := alloc3 (w := w) (A := .cells #[.int .i64 a, .int .i64 b, .int .i64 c, .int .i64 d] 30) (B := .cells #[.int .i64 a', .int .i64 b', .int .i64 c', .int .i64 d'] 30) (C := .cells #[.int .i64 0, .int .i64 0, .int .i64 0, .int .i64 0] 30) (Gr.refl _)
  have Y1 := hid (hg1.keep y2)
  have X1 := hid (RdF.of_block (xs := endL a b c d a' b' c' d') xb)
  have G1 := hid (((((Gr.refl w).al _).al _).al _).trans hg1)
  clear hg1 hb1 xb y2
  simp only [List.drop_succ_cons, List.drop_zero]
  go_wp2_with fail
  refine (HMN.out _ _ _ X1).mono ?_
  rintro e w2 ⟨rfl, hg2⟩
  have Y2 := hid (hg2.keep Y1.out); have X2 := hid (X1.out.keep hg2); have G2 := hid (G1.out.trans hg2)
  clear hg2 Y1 X1
  go_wp2_with fail
  refine (HMX.out _ _ _ X2).mono ?_
  rintro e w3 ⟨rfl, hg3⟩
  have Y3 := hid (hg3.keep Y2.out); have G3 := hid (G2.out.trans hg3)
  clear hg3 Y2 X2
  obtain ⟨_, _, _, _⟩ := cells4 Y3.out
  have _ := fz Y3.out
  have _ := ltb Y3.out
  go_wp2
  refine bodyPost_ret (v := sp p q r s) (by simp [results, Try.results78, go_sem, *]) rfl ⟨rfl, ?_⟩
  exact ((((G3.out.setCell (by simp; omega) _).setCell (by simp; omega) _).setCell (by simp; omega) _).setCell (by simp; omega) _)
set_option maxRecDepth 20000 in
set_option maxHeartbeats 400000 in
theorem stimes_b1 (a b c d a' b' c' d' : Int) (w : World) (h1 : okB a b = true) (h2 : okB c d = true) (h3 : okB a' b' = true) (h4 : okB c' d' = true) (k1 : okB (redP (a*a') (b*b')) (redQ (a*a') (b*b')) = false) :
    Calls Try.prog 78 #[sp a b c d, sp a' b' c' d'] w fun e w' => (∃ x y, e = .panicked [{ v := .iface 194 (fr x y), recovered := false }]) ∧ Gr w w' := by
  have h1 := hid h1
  have h2 := hid h2
  have h3 := hid h3
  have h4 := hid h4
  have k1 := hid k1
  go_enter Try.func78, Try.ntmps78
  go_wp2_with fail
  refine wp_regP 4 [9, 14, 19, 20, 21] (by kernel_rfl) (by kernel_rfl) rfl ?_
  apply Exists.intro
  refine ⟨111, #[fr a b, fr a' b'], fun wb hb => ?_, ?_⟩
  · obtain ⟨y0, y1, y2, _, _⟩ := alloc3 (Gr.refl _)
    obtain ⟨_, _, _, _⟩ := hb.at4 y0
    obtain ⟨_, _, _, _⟩ := hb.at4 y1
    obtain ⟨_, _, _, _⟩ := hb.at4 y2
    clear y0 y1 y2
    simp only [headOps, List.contains, List.elem, List.length_cons, List.length_nil, Nat.zero_add, Nat.reduceAdd, Nat.reduceBEq, reduceIte, Bool.false_eq_true, dumOp]
    repeat (first | go_big_quiet_step (first | (fail)) | quiet_step (fail))
    exact wpQuiet_nil rfl
  refine ⟨fun w' => by kernel_rfl, fun w' hg' => (times_no _ _ _ _ _ h1.out h3.out k1.out).mono fun e w2 ⟨⟨x, y, he⟩, hg2⟩ => ⟨_, he, fun a' ha' => ⟨ha', ⟨x, y, rfl⟩, (((((Gr.refl _).al _).al _).al _).trans hg').trans hg2⟩⟩⟩
set_option maxRecDepth 20000 in
set_option maxHeartbeats 400000 in
theorem stimes_b2 (a b c d a' b' c' d' : Int) (w : World) (h1 : okB a b = true) (h2 : okB c d = true) (h3 : okB a' b' = true) (h4 : okB c' d' = true) (k1 : okB (redP (a*a') (b*b')) (redQ (a*a') (b*b')) = true) (k2 : okB (redP (a*c') (b*d')) (redQ (a*c') (b*d')) = false) :
    Calls Try.prog 78 #[sp a b c d, sp a' b' c' d'] w fun e w' => (∃ x y, e = .panicked [{ v := .iface 194 (fr x y), recovered := false }]) ∧ Gr w w' := by
  have h1 := hid h1
  have h2 := hid h2
  have h3 := hid h3
  have h4 := hid h4
  have k1 := hid k1
  have k2 := hid k2
  go_enter Try.func78, Try.ntmps78
  go_wp2_with fail
  refine wp_regP 9 [14, 19, 20, 21] (by kernel_rfl) (by kernel_rfl) rfl ?_
  apply Exists.intro
  refine ⟨111, #[fr a b, fr c' d'], fun wb hb => ?_, ?_⟩
  · obtain ⟨y0, y1, y2, _, _⟩ := alloc3 (Gr.refl _)
    obtain ⟨_, _, _, _⟩ := hb.at4 y0
    obtain ⟨_, _, _, _⟩ := hb.at4 y1
    obtain ⟨_, _, _, _⟩ := hb.at4 y2
    clear y0 y1 y2
    simp only [headOps, List.contains, List.elem, List.length_cons, List.length_nil, Nat.zero_add, Nat.reduceAdd, Nat.reduceBEq, reduceIte, Bool.false_eq_true, dumOp]
    repeat (first | go_big_quiet_step (first | (go_at_call 111; with_reducible exact Calls.of_gr (times_yes a b a' b' _ h1.out h3.out k1.out))) | quiet_step (fail))
    exact wpQuiet_nil rfl
  refine ⟨fun w' => by kernel_rfl, fun w' hg' => (times_no _ _ _ _ _ h1.out h4.out k2.out).mono fun e w2 ⟨⟨x, y, he⟩, hg2⟩ => ⟨_, he, fun a' ha' => ⟨ha', ⟨x, y, rfl⟩, (((((Gr.refl _).al _).al _).al _).trans hg').trans hg2⟩⟩⟩
set_option maxRecDepth 20000 in
set_option maxHeartbeats 400000 in
theorem stimes_b3 (a b c d a' b' c' d' : Int) (w : World) (h1 : okB a b = true) (h2 : okB c d = true) (h3 : okB a' b' = true) (h4 : okB c' d' = true) (k1 : okB (redP (a*a') (b*b')) (redQ (a*a') (b*b')) = true) (k2 : okB (redP (a*c') (b*d')) (redQ (a*c') (b*d')) = true) (k3 : okB (redP (c*a') (d*b')) (redQ (c*a') (d*b')) = false) :
    Calls Try.prog 78 #[sp a b c d, sp a' b' c' d'] w fun e w' => (∃ x y, e = .panicked [{ v := .iface 194 (fr x y), recovered := false }]) ∧ Gr w w' := by
  have h1 := hid h1
  have h2 := hid h2
  have h3 := hid h3
  have h4 := hid h4
  have k1 := hid k1
  have k2 := hid k2
  have k3 := hid k3
  go_enter Try.func78, Try.ntmps78
  go_wp2_with fail
  refine wp_regP 14 [19, 20, 21] (by kernel_rfl) (by kernel_rfl) rfl ?_
  apply Exists.intro
  refine ⟨111, #[fr c d, fr a' b'], fun wb hb => ?_, ?_⟩
  · obtain ⟨y0, y1, y2, _, _⟩ := alloc3 (Gr.refl _)
    obtain ⟨_, _, _, _⟩ := hb.at4 y0
    obtain ⟨_, _, _, _⟩ := hb.at4 y1
    obtain ⟨_, _, _, _⟩ := hb.at4 y2
    clear y0 y1 y2
    simp only [headOps, List.contains, List.elem, List.length_cons, List.length_nil, Nat.zero_add, Nat.reduceAdd, Nat.reduceBEq, reduceIte, Bool.false_eq_true, dumOp]
    repeat (first | go_big_quiet_step (first | (go_at_call 111; with_reducible exact Calls.of_gr (times_yes a b a' b' _ h1.out h3.out k1.out)) | (go_at_call 111; with_reducible exact Calls.of_gr (times_yes a b c' d' _ h1.out h4.out k2.out))) | quiet_step (fail))
    exact wpQuiet_nil rfl
  refine ⟨fun w' => by kernel_rfl, fun w' hg' => (times_no _ _ _ _ _ h2.out h3.out k3.out).mono fun e w2 ⟨⟨x, y, he⟩, hg2⟩ => ⟨_, he, fun a' ha' => ⟨ha', ⟨x, y, rfl⟩, (((((Gr.refl _).al _).al _).al _).trans hg').trans hg2⟩⟩⟩
set_option maxRecDepth 20000 in
set_option maxHeartbeats 400000 in
theorem stimes_b4 (a b c d a' b' c' d' : Int) (w : World) (h1 : okB a b = true) (h2 : okB c d = true) (h3 : okB a' b' = true) (h4 : okB c' d' = true) (k1 : okB (redP (a*a') (b*b')) (redQ (a*a') (b*b')) = true) (k2 : okB (redP (a*c') (b*d')) (redQ (a*c') (b*d')) = true) (k3 : okB (redP (c*a') (d*b')) (redQ (c*a') (d*b')) = true) (k4 : okB (redP (c*c') (d*d')) (redQ (c*c') (d*d')) = false) :
    Calls Try.prog 78 #[sp a b c d, sp a' b' c' d'] w fun e w' => (∃ x y, e = .panicked [{ v := .iface 194 (fr x y), recovered := false }]) ∧ Gr w w' := by
  have h1 := hid h1
  have h2 := hid h2
  have h3 := hid h3
  have h4 := hid h4
  have k1 := hid k1
  have k2 := hid k2
  have k3 := hid k3
  have k4 := hid k4
  go_enter Try.func78, Try.ntmps78
  go_wp2_with fail
  refine wp_regP 19 [20, 21] (by kernel_rfl) (by kernel_rfl) rfl ?_
  apply Exists.intro
  refine ⟨111, #[fr c d, fr c' d'], fun wb hb => ?_, ?_⟩
  · obtain ⟨y0, y1, y2, _, _⟩ := alloc3 (Gr.refl _)
    obtain ⟨_, _, _, _⟩ := hb.at4 y0
    obtain ⟨_, _, _, _⟩ := hb.at4 y1
    obtain ⟨_, _, _, _⟩ := hb.at4 y2
    clear y0 y1 y2
    simp only [headOps, List.contains, List.elem, List.length_cons, List.length_nil, Nat.zero_add, Nat.reduceAdd, Nat.reduceBEq, reduceIte, Bool.false_eq_true, dumOp]
    repeat (first | go_big_quiet_step (first | (go_at_call 111; with_reducible exact Calls.of_gr (times_yes a b a' b' _ h1.out h3.out k1.out)) | (go_at_call 111; with_reducible exact Calls.of_gr (times_yes a b c' d' _ h1.out h4.out k2.out)) | (go_at_call 111; with_reducible exact Calls.of_gr (times_yes c d a' b' _ h2.out h3.out k3.out))) | quiet_step (fail))
    exact wpQuiet_nil rfl
  refine ⟨fun w' => by kernel_rfl, fun w' hg' => (times_no _ _ _ _ _ h2.out h4.out k4.out).mono fun e w2 ⟨⟨x, y, he⟩, hg2⟩ => ⟨_, he, fun a' ha' => ⟨ha', ⟨x, y, rfl⟩, (((((Gr.refl _).al _).al _).al _).trans hg').trans hg2⟩⟩⟩
set_option maxRecDepth 20000 in
set_option maxHeartbeats 400000 in
theorem jtimes_ok (a b c d a' b' c' d' P Q R S : Int) (w : World) (k1 k2 k3 : Nat) (T : TypeId) (X1 : Hid (w.heap[k1]? = some (.cells #[.func (.func 78) #[] #[]] T))) (X2 : Hid (w.heap[k2]? = some (.cells #[.int .i64 a, .int .i64 b, .int .i64 c, .int .i64 d] 30))) (X3 : Hid (w.heap[k3]? = some (.cells #[.int .i64 a', .int .i64 b', .int .i64 c', .int .i64 d'] 30))) (h : ∀ w, Calls Try.prog 78 #[sp a b c d, sp a' b' c' d'] w fun e w' => e = .returned (sp P Q R S) ∧ Gr w w') :
    Calls Try.prog 143 #[.pointer (some ⟨k1, 0, none⟩), .pointer (some ⟨k2, 0, none⟩), .pointer (some ⟨k3, 0, none⟩)] w fun e w' => e = .returned (sp P Q R S) ∧ Gr w w' := by
  have H := hid h; clear h
  go_enter Try.func143, Try.ntmps143
  have _ := cells1 X1.out
  have _ := fz X1.out
  have _ := ltb X1.out
  obtain ⟨_, _, _, _⟩ := cells4 X2.out
  have _ := fz X2.out
  have _ := ltb X2.out
  obtain ⟨_, _, _, _⟩ := cells4 X3.out
  have _ := fz X3.out
  have _ := ltb X3.out
  go_wp2_with fail
  refine (H.out _).mono ?_
  rintro e w1 ⟨rfl, hg1⟩
  obtain ⟨x1_0, hz1, g1⟩ := alloc1 hg1
  have x1_1 := g1.keep X1.out
  have x1_2 := g1.keep X2.out
  have x1_3 := g1.keep X3.out
  obtain ⟨_, _, _, _⟩ := cells4 x1_0
  have _ := fz x1_0
  have _ := ltb x1_0
  have _ := cells1 x1_1
  have _ := fz x1_1
  have _ := ltb x1_1
  obtain ⟨_, _, _, _⟩ := cells4 x1_2
  have _ := fz x1_2
  have _ := ltb x1_2
  obtain ⟨_, _, _, _⟩ := cells4 x1_3
  have _ := fz x1_3
  have _ := ltb x1_3
  have X1_0 := hid x1_0; clear x1_0
  have X1_1 := hid x1_1; clear x1_1
  have X1_2 := hid x1_2; clear x1_2
  have X1_3 := hid x1_3; clear x1_3
  have G1 := hid (g1)
  clear hg1 g1
  go_wp2
  refine bodyPost_ret (v := sp P Q R S) (by simp [results, Try.results143, go_sem, *]) rfl ⟨rfl, ?_⟩
  exact ((((G1.out).setCell (by simp <;> omega) _).setCell (by simp <;> omega) _).setCell (by simp <;> omega) _).setCell (by simp <;> omega) _
set_option maxRecDepth 20000 in
set_option maxHeartbeats 400000 in
theorem jtimes_bad (a b c d a' b' c' d' : Int) (w : World) (k1 k2 k3 : Nat) (T : TypeId) (X1 : Hid (w.heap[k1]? = some (.cells #[.func (.func 78) #[] #[]] T))) (X2 : Hid (w.heap[k2]? = some (.cells #[.int .i64 a, .int .i64 b, .int .i64 c, .int .i64 d] 30))) (X3 : Hid (w.heap[k3]? = some (.cells #[.int .i64 a', .int .i64 b', .int .i64 c', .int .i64 d'] 30))) (h : ∀ w, Calls Try.prog 78 #[sp a b c d, sp a' b' c' d'] w fun e w' => (∃ x y, e = .panicked [{ v := .iface 194 (fr x y), recovered := false }]) ∧ Gr w w') :
    Calls Try.prog 143 #[.pointer (some ⟨k1, 0, none⟩), .pointer (some ⟨k2, 0, none⟩), .pointer (some ⟨k3, 0, none⟩)] w fun e w' => (∃ x y, e = .panicked [{ v := .iface 194 (fr x y), recovered := false }]) ∧ Gr w w' := by
  have H := hid h; clear h
  go_enter Try.func143, Try.ntmps143
  have _ := cells1 X1.out
  have _ := fz X1.out
  have _ := ltb X1.out
  obtain ⟨_, _, _, _⟩ := cells4 X2.out
  have _ := fz X2.out
  have _ := ltb X2.out
  obtain ⟨_, _, _, _⟩ := cells4 X3.out
  have _ := fz X3.out
  have _ := ltb X3.out
  go_wp2_with fail
  refine (H.out _).mono ?_
  rintro e w1 ⟨⟨xp, yp, rfl⟩, hg1⟩
  obtain ⟨x1_0, hz1, g1⟩ := alloc1 hg1
  have x1_1 := g1.keep X1.out
  have x1_2 := g1.keep X2.out
  have x1_3 := g1.keep X3.out
  obtain ⟨_, _, _, _⟩ := cells4 x1_0
  have _ := fz x1_0
  have _ := ltb x1_0
  have _ := cells1 x1_1
  have _ := fz x1_1
  have _ := ltb x1_1
  obtain ⟨_, _, _, _⟩ := cells4 x1_2
  have _ := fz x1_2
  have _ := ltb x1_2
  obtain ⟨_, _, _, _⟩ := cells4 x1_3
  have _ := fz x1_3
  have _ := ltb x1_3
  have X1_0 := hid x1_0; clear x1_0
  have X1_1 := hid x1_1; clear x1_1
  have X1_2 := hid x1_2; clear x1_2
  have X1_3 := hid x1_3; clear x1_3
  have G1 := hid (g1)
  clear hg1 g1
  exact ⟨rfl, ⟨xp, yp, rfl⟩, G1.out⟩
set_option maxRecDepth 20000 in
set_option maxHeartbeats 400000 in
theorem oftimes_n1 (a b c d a' b' c' d' : Int) (w : World) (h1 : spB a b c d = false) :
    Calls Try.prog 77 #[sp a b c d, sp a' b' c' d', .func (.func 78) #[] #[]] w fun e w' => e = .returned (.tuple #[sp 0 0 0 0, .int .i64 1]) ∧ Gr w w' := by
  have h1 := hid h1
  go_enter Try.func77, Try.ntmps77
  go_wp2_with fail
  refine (iSpan_f _ _ _ _ _ h1.out).mono ?_
  rintro e w1 ⟨rfl, hg1⟩
  obtain ⟨x1_0, x1_1, x1_2, x1_3, hz1, g1⟩ := alloc4 hg1
  obtain ⟨_, _, _, _⟩ := cells4 x1_0
  have _ := fz x1_0
  have _ := ltb x1_0
  obtain ⟨_, _, _, _⟩ := cells4 x1_1
  have _ := fz x1_1
  have _ := ltb x1_1
  have _ := cells1 x1_2
  have _ := fz x1_2
  have _ := ltb x1_2
  obtain ⟨_, _, _, _⟩ := cells4 x1_3
  have _ := fz x1_3
  have _ := ltb x1_3
  have X1_0 := hid x1_0; clear x1_0
  have X1_1 := hid x1_1; clear x1_1
  have X1_2 := hid x1_2; clear x1_2
  have X1_3 := hid x1_3; clear x1_3
  have G1 := hid (g1)
  clear hg1 g1
  go_wp2
  refine bodyPost_ret (v := .tuple #[sp 0 0 0 0, .int .i64 1]) (by simp [results, Try.results77, go_sem, *]) rfl ⟨rfl, ?_⟩
  exact ((((G1.out).setCell (by simp <;> omega) _).setCell (by simp <;> omega) _).setCell (by simp <;> omega) _).setCell (by simp <;> omega) _
set_option maxRecDepth 20000 in
set_option maxHeartbeats 400000 in
theorem oftimes_n2 (a b c d a' b' c' d' : Int) (w : World) (h1 : spB a b c d = true) (h2 : spB a' b' c' d' = false) :
    Calls Try.prog 77 #[sp a b c d, sp a' b' c' d', .func (.func 78) #[] #[]] w fun e w' => e = .returned (.tuple #[sp 0 0 0 0, .int .i64 1]) ∧ Gr w w' := by
  have h1 := hid h1
  have h2 := hid h2
  go_enter Try.func77, Try.ntmps77
  go_wp2_with fail
  refine (iSpan_t _ _ _ _ _ h1.out).mono ?_
  rintro e w1 ⟨rfl, hg1⟩
  obtain ⟨x1_0, x1_1, x1_2, x1_3, hz1, g1⟩ := alloc4 hg1
  obtain ⟨_, _, _, _⟩ := cells4 x1_0
  have _ := fz x1_0
  have _ := ltb x1_0
  obtain ⟨_, _, _, _⟩ := cells4 x1_1
  have _ := fz x1_1
  have _ := ltb x1_1
  have _ := cells1 x1_2
  have _ := fz x1_2
  have _ := ltb x1_2
  obtain ⟨_, _, _, _⟩ := cells4 x1_3
  have _ := fz x1_3
  have _ := ltb x1_3
  have X1_0 := hid x1_0; clear x1_0
  have X1_1 := hid x1_1; clear x1_1
  have X1_2 := hid x1_2; clear x1_2
  have X1_3 := hid x1_3; clear x1_3
  have G1 := hid (g1)
  clear hg1 g1
  go_wp2_with fail
  refine (iSpan_f _ _ _ _ _ h2.out).mono ?_
  rintro e w2 ⟨rfl, hg2⟩
  have x2_1 := hg2.keep X1_0.out
  have x2_2 := hg2.keep X1_1.out
  have x2_3 := hg2.keep X1_2.out
  have x2_4 := hg2.keep X1_3.out
  obtain ⟨_, _, _, _⟩ := cells4 x2_1
  have _ := fz x2_1
  have _ := ltb x2_1
  obtain ⟨_, _, _, _⟩ := cells4 x2_2
  have _ := fz x2_2
  have _ := ltb x2_2
  have _ := cells1 x2_3
  have _ := fz x2_3
  have _ := ltb x2_3
  obtain ⟨_, _, _, _⟩ := cells4 x2_4
  have _ := fz x2_4
  have _ := ltb x2_4
  have X2_1 := hid x2_1; clear x2_1
  have X2_2 := hid x2_2; clear x2_2
  have X2_3 := hid x2_3; clear x2_3
  have X2_4 := hid x2_4; clear x2_4
  have G2 := hid (G1.out.trans hg2)
  clear hg2
  go_wp2
  refine bodyPost_ret (v := .tuple #[sp 0 0 0 0, .int .i64 1]) (by simp [results, Try.results77, go_sem, *]) rfl ⟨rfl, ?_⟩
  exact ((((G2.out).setCell (by simp <;> omega) _).setCell (by simp <;> omega) _).setCell (by simp <;> omega) _).setCell (by simp <;> omega) _
set_option maxRecDepth 20000 in
set_option maxHeartbeats 400000 in
theorem oftimes_ok (a b c d a' b' c' d' P Q R S : Int) (w : World) (h1 : spB a b c d = true) (h2 : spB a' b' c' d' = true) (h : ∀ w, Calls Try.prog 78 #[sp a b c d, sp a' b' c' d'] w fun e w' => e = .returned (sp P Q R S) ∧ Gr w w') :
    Calls Try.prog 77 #[sp a b c d, sp a' b' c' d', .func (.func 78) #[] #[]] w fun e w' => e = .returned (.tuple #[sp P Q R S, .int .i64 0]) ∧ Gr w w' := by
  have h1 := hid h1
  have h2 := hid h2
  have H := hid h; clear h
  go_enter Try.func77, Try.ntmps77
  go_wp2_with fail
  refine (iSpan_t _ _ _ _ _ h1.out).mono ?_
  rintro e w1 ⟨rfl, hg1⟩
  obtain ⟨x1_0, x1_1, x1_2, x1_3, hz1, g1⟩ := alloc4 hg1
  obtain ⟨_, _, _, _⟩ := cells4 x1_0
  have _ := fz x1_0
  have _ := ltb x1_0
  obtain ⟨_, _, _, _⟩ := cells4 x1_1
  have _ := fz x1_1
  have _ := ltb x1_1
  have _ := cells1 x1_2
  have _ := fz x1_2
  have _ := ltb x1_2
  obtain ⟨_, _, _, _⟩ := cells4 x1_3
  have _ := fz x1_3
  have _ := ltb x1_3
  have X1_0 := hid x1_0; clear x1_0
  have X1_1 := hid x1_1; clear x1_1
  have X1_2 := hid x1_2; clear x1_2
  have X1_3 := hid x1_3; clear x1_3
  have G1 := hid (g1)
  clear hg1 g1
  go_wp2_with fail
  refine (iSpan_t _ _ _ _ _ h2.out).mono ?_
  rintro e w2 ⟨rfl, hg2⟩
  have x2_1 := hg2.keep X1_0.out
  have x2_2 := hg2.keep X1_1.out
  have x2_3 := hg2.keep X1_2.out
  have x2_4 := hg2.keep X1_3.out
  obtain ⟨_, _, _, _⟩ := cells4 x2_1
  have _ := fz x2_1
  have _ := ltb x2_1
  obtain ⟨_, _, _, _⟩ := cells4 x2_2
  have _ := fz x2_2
  have _ := ltb x2_2
  have _ := cells1 x2_3
  have _ := fz x2_3
  have _ := ltb x2_3
  obtain ⟨_, _, _, _⟩ := cells4 x2_4
  have _ := fz x2_4
  have _ := ltb x2_4
  have X2_1 := hid x2_1; clear x2_1
  have X2_2 := hid x2_2; clear x2_2
  have X2_3 := hid x2_3; clear x2_3
  have X2_4 := hid x2_4; clear x2_4
  have G2 := hid (G1.out.trans hg2)
  clear hg2
  go_wp2_with fail
  refine (told_ok_S 143 _ P Q R S _ (fun _ => by kernel_rfl) (fun w' hg' => jtimes_ok _ _ _ _ _ _ _ _ _ _ _ _ w' _ _ _ _ (hid (hg'.keep X2_3.out)) (hid (hg'.keep X2_1.out)) (hid (hg'.keep X2_2.out)) H.out)).mono ?_
  rintro e w3 ⟨rfl, hg3⟩
  have x3_1 := hg3.keep X2_1.out
  have x3_2 := hg3.keep X2_2.out
  have x3_3 := hg3.keep X2_3.out
  have x3_4 := hg3.keep X2_4.out
  obtain ⟨_, _, _, _⟩ := cells4 x3_1
  have _ := fz x3_1
  have _ := ltb x3_1
  obtain ⟨_, _, _, _⟩ := cells4 x3_2
  have _ := fz x3_2
  have _ := ltb x3_2
  have _ := cells1 x3_3
  have _ := fz x3_3
  have _ := ltb x3_3
  obtain ⟨_, _, _, _⟩ := cells4 x3_4
  have _ := fz x3_4
  have _ := ltb x3_4
  have X3_1 := hid x3_1; clear x3_1
  have X3_2 := hid x3_2; clear x3_2
  have X3_3 := hid x3_3; clear x3_3
  have X3_4 := hid x3_4; clear x3_4
  have G3 := hid (G2.out.trans hg3)
  clear hg3
  go_wp2
  refine bodyPost_ret (v := .tuple #[sp P Q R S, .int .i64 0]) (by simp [results, Try.results77, go_sem, *]) rfl ⟨rfl, ?_⟩
  exact ((((G3.out).setCell (by simp <;> omega) _).setCell (by simp <;> omega) _).setCell (by simp <;> omega) _).setCell (by simp <;> omega) _
set_option maxRecDepth 20000 in
set_option maxHeartbeats 400000 in
theorem oftimes_bad (a b c d a' b' c' d' : Int) (w : World) (h1 : spB a b c d = true) (h2 : spB a' b' c' d' = true) (h : ∀ w, Calls Try.prog 78 #[sp a b c d, sp a' b' c' d'] w fun e w' => (∃ x y, e = .panicked [{ v := .iface 194 (fr x y), recovered := false }]) ∧ Gr w w') :
    Calls Try.prog 77 #[sp a b c d, sp a' b' c' d', .func (.func 78) #[] #[]] w fun e w' => e = .returned (.tuple #[sp 0 0 0 0, .int .i64 3]) ∧ Gr w w' := by
  have h1 := hid h1
  have h2 := hid h2
  have H := hid h; clear h
  go_enter Try.func77, Try.ntmps77
  go_wp2_with fail
  refine (iSpan_t _ _ _ _ _ h1.out).mono ?_
  rintro e w1 ⟨rfl, hg1⟩
  obtain ⟨x1_0, x1_1, x1_2, x1_3, hz1, g1⟩ := alloc4 hg1
  obtain ⟨_, _, _, _⟩ := cells4 x1_0
  have _ := fz x1_0
  have _ := ltb x1_0
  obtain ⟨_, _, _, _⟩ := cells4 x1_1
  have _ := fz x1_1
  have _ := ltb x1_1
  have _ := cells1 x1_2
  have _ := fz x1_2
  have _ := ltb x1_2
  obtain ⟨_, _, _, _⟩ := cells4 x1_3
  have _ := fz x1_3
  have _ := ltb x1_3
  have X1_0 := hid x1_0; clear x1_0
  have X1_1 := hid x1_1; clear x1_1
  have X1_2 := hid x1_2; clear x1_2
  have X1_3 := hid x1_3; clear x1_3
  have G1 := hid (g1)
  clear hg1 g1
  go_wp2_with fail
  refine (iSpan_t _ _ _ _ _ h2.out).mono ?_
  rintro e w2 ⟨rfl, hg2⟩
  have x2_1 := hg2.keep X1_0.out
  have x2_2 := hg2.keep X1_1.out
  have x2_3 := hg2.keep X1_2.out
  have x2_4 := hg2.keep X1_3.out
  obtain ⟨_, _, _, _⟩ := cells4 x2_1
  have _ := fz x2_1
  have _ := ltb x2_1
  obtain ⟨_, _, _, _⟩ := cells4 x2_2
  have _ := fz x2_2
  have _ := ltb x2_2
  have _ := cells1 x2_3
  have _ := fz x2_3
  have _ := ltb x2_3
  obtain ⟨_, _, _, _⟩ := cells4 x2_4
  have _ := fz x2_4
  have _ := ltb x2_4
  have X2_1 := hid x2_1; clear x2_1
  have X2_2 := hid x2_2; clear x2_2
  have X2_3 := hid x2_3; clear x2_3
  have X2_4 := hid x2_4; clear x2_4
  have G2 := hid (G1.out.trans hg2)
  clear hg2
  go_wp2_with fail
  refine (told_great_S 143 _ _ (fun _ => by kernel_rfl) (fun w' hg' => jtimes_bad _ _ _ _ _ _ _ _ w' _ _ _ _ (hid (hg'.keep X2_3.out)) (hid (hg'.keep X2_1.out)) (hid (hg'.keep X2_2.out)) H.out)).mono ?_
  rintro e w3 ⟨rfl, hg3⟩
  have x3_1 := hg3.keep X2_1.out
  have x3_2 := hg3.keep X2_2.out
  have x3_3 := hg3.keep X2_3.out
  have x3_4 := hg3.keep X2_4.out
  obtain ⟨_, _, _, _⟩ := cells4 x3_1
  have _ := fz x3_1
  have _ := ltb x3_1
  obtain ⟨_, _, _, _⟩ := cells4 x3_2
  have _ := fz x3_2
  have _ := ltb x3_2
  have _ := cells1 x3_3
  have _ := fz x3_3
  have _ := ltb x3_3
  obtain ⟨_, _, _, _⟩ := cells4 x3_4
  have _ := fz x3_4
  have _ := ltb x3_4
  have X3_1 := hid x3_1; clear x3_1
  have X3_2 := hid x3_2; clear x3_2
  have X3_3 := hid x3_3; clear x3_3
  have X3_4 := hid x3_4; clear x3_4
  have G3 := hid (G2.out.trans hg3)
  clear hg3
  go_wp2
  refine bodyPost_ret (v := .tuple #[sp 0 0 0 0, .int .i64 3]) (by simp [results, Try.results77, go_sem, *]) rfl ⟨rfl, ?_⟩
  exact ((((G3.out).setCell (by simp <;> omega) _).setCell (by simp <;> omega) _).setCell (by simp <;> omega) _).setCell (by simp <;> omega) _
set_option maxRecDepth 20000 in
set_option maxHeartbeats 400000 in
theorem iMulSpans (a b c d a' b' c' d' : Int) (P Q R S C : Int) (w : World) (hi : ∀ w, Calls Try.prog 77 #[sp a b c d, sp a' b' c' d', .func (.func 78) #[] #[]] w fun e w' => e = .returned (.tuple #[sp P Q R S, .int .i64 C]) ∧ Gr w w') :
    Calls Try.prog 25 #[sp a b c d, sp a' b' c' d'] w fun e w' => e = .returned (.tuple #[sp P Q R S, .int .i64 C]) ∧ Gr w w' := by
  have Hi := hid hi; clear hi
  go_enter Try.func25, Try.ntmps25
  go_wp2_with fail
  refine (Hi.out _).mono ?_
  rintro e w1 ⟨rfl, hg1⟩
  obtain ⟨x1_0, x1_1, x1_2, hz1, g1⟩ := alloc3 hg1
  obtain ⟨_, _, _, _⟩ := cells4 x1_0
  have _ := fz x1_0
  have _ := ltb x1_0
  obtain ⟨_, _, _, _⟩ := cells4 x1_1
  have _ := fz x1_1
  have _ := ltb x1_1
  obtain ⟨_, _, _, _⟩ := cells4 x1_2
  have _ := fz x1_2
  have _ := ltb x1_2
  have X1_0 := hid x1_0; clear x1_0
  have X1_1 := hid x1_1; clear x1_1
  have X1_2 := hid x1_2; clear x1_2
  have G1 := hid (g1)
  clear hg1 g1
  go_wp2
  refine bodyPost_ret (v := .tuple #[sp P Q R S, .int .i64 C]) (by simp [results, Try.results25, go_sem, *]) rfl ⟨rfl, ?_⟩
  exact ((((G1.out).setCell (by simp <;> omega) _).setCell (by simp <;> omega) _).setCell (by simp <;> omega) _).setCell (by simp <;> omega) _
end Go.Proofs.Yteopkbeokiomlaa
