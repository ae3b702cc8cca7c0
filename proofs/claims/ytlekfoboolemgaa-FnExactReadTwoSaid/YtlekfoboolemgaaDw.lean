/- WALKS: SwingAt, of the program and of the reference. -/
import Derived.Test.YtlekfoboolemgaaDv
namespace Go.Proofs.Ytlekfoboolemgaa
open Go.RowKit Go.Sort

theorem off_bd {e no a : Int} (h1 : -600 ≤ e ∧ e ≤ 600) (h2 : -600 ≤ no ∧ no ≤ 600) (a1 : 0 ≤ a) (a2 : a < 1296000) :
    (-194400000 ≤ e * swI a ∧ e * swI a ≤ 194400000) ∧ (-194400000 ≤ no * swI (wrapI (a + 324000)) ∧ no * swI (wrapI (a + 324000)) ≤ 194400000) := by
  obtain ⟨s1, s2⟩ := sw_bd a1 a2
  obtain ⟨w1, w2⟩ := wrap_bd (a + 324000)
  obtain ⟨t1, t2⟩ := sw_bd w1 w2
  exact ⟨mul_bdg h1.1 h1.2 s1 s2, mul_bdg h2.1 h2.2 t1 t2⟩
theorem dk_parts {xs : List Int} {e no : Int} (h : dkB xs e no = true) : divB (xs.length : Int) = true ∧ (-600 ≤ e ∧ e ≤ 600) ∧ (-600 ≤ no ∧ no ≤ 600) ∧ xs.all okF = true := by
  unfold dkB inB at h
  simp only [Bool.and_eq_true, decide_eq_true_eq] at h
  exact ⟨h.1.1, h.1.2.1, h.1.2.2, h.2⟩
set_option maxRecDepth 20000 in
set_option maxHeartbeats 1000000 in
theorem iDkSwing (A : Option Addr) (n c : Nat) (e no a : Int) (w : World) (h1 : -600 ≤ e ∧ e ≤ 600) (h2 : -600 ≤ no ∧ no ≤ 600) (a1 : 0 ≤ a) (a2 : a < 1296000) :
    Calls Try.prog 70 #[dk A n c e no, .int .i64 a] w fun x w' => x = .returned (.int .i64 (offI e no a * 4)) ∧ Gr w w' := by
  obtain ⟨⟨m1, m2⟩, m3, m4⟩ := off_bd h1 h2 a1 a2
  obtain ⟨_, _⟩ := h1
  obtain ⟨_, _⟩ := h2
  have hen1 : ∀ s w, (callFunc 101 #[.int .i64 s]).run Try.prog w = .ok (.enter 101 #[.int .i64 s]) w := fun s w => by kernel_rfl
  have hen2 : ∀ s w, (callFunc 102 #[.int .i64 s]).run Try.prog w = .ok (.enter 102 #[.int .i64 s]) w := fun s w => by kernel_rfl
  have hix0 : ∀ w, (Instr.index 86 (.agg #[.func (.func 101) #[] #[], .func (.func 102) #[] #[]]) (.int .i64 0)).run Try.prog w = .ok (.func (.func 101) #[] #[]) w := fun _ => by kernel_rfl
  have hix1 : ∀ w, (Instr.index 86 (.agg #[.func (.func 101) #[] #[], .func (.func 102) #[] #[]]) (.int .i64 1)).run Try.prog w = .ok (.func (.func 102) #[] #[]) w := fun _ => by kernel_rfl
  unfold offI
  go_enter Try.func70, Try.ntmps70
  go_wp2_with fail
  refine wp_reg1 (b0 := .cells #[.int .i64 0, .int .i64 0] 85) 7 5 6 (by kernel_rfl) (by kernel_rfl) rfl rfl (by simp) (fun _ _ => by kernel_rfl) ?_
  apply Exists.intro
  refine ⟨fun wb hb => ?_, ?_⟩
  · obtain ⟨_, _, _⟩ := hb.at3 (alloc1 (Gr.refl _)).1
    simp only [headOps, List.contains, List.elem, Nat.reduceAdd, Nat.reduceBEq, reduceIte, Bool.false_eq_true, dumOp]
    repeat (first | go_big_quiet_step (first | (fail)) | quiet_step (fail))
    exact wpQuiet_nil rfl
  intro w1 b hg1 hb1 xb
  obtain ⟨_, _⟩ := cells2 xb
  have _ := fz xb
  have XB := hid xb
  have Z := hid hb1
  have G1 := hid (((Gr.refl w).al _).trans hg1)
  clear xb hg1 hb1
  simp only [List.drop_succ_cons, List.drop_zero]
  go_wp2_with fail
  refine (iswings _).mono ?_
  rintro x w2 ⟨rfl, hg2⟩
  have X2 := hid (hg2.keep (set2_new XB.out))
  have G2 := hid (((G1.out.setCell (by have := Z.out; simp at this ⊢; omega) _).setCell (by have := Z.out; simp at this ⊢; omega) _).trans hg2)
  clear hg2 XB
  go_wp2_with fail
  go_loopw [5, 15] (fun s u wr => ∃ (k : Nat), u = .int .i64 (k : Int) ∧ k ≤ 2 ∧ s = .int .i64 (if k = 0 then 0 else if k = 1 then e * swI a else e * swI a + no * swI (wrapI (a + 324000))) ∧ Gr w2 wr) (fun _ u _ => 2 - (intOf u).toNat)
  case atStart => exact ⟨0, rfl, by omega, rfl, Gr.refl _⟩
  case round =>
    obtain ⟨k, rfl, hk, rfl, hg⟩ := hrel
    have HG := hid hg
    have xk := hg.keep X2.out
    obtain ⟨_, _⟩ := cells2 xk
    have XK := hid xk
    clear hg xk
    match k, hk with
    | 0, _ =>
      go_wp2_with fail
      refine wp_reg0 9 (by kernel_rfl) (by kernel_rfl) ?_
      apply Exists.intro
      refine ⟨fun wb hb => ?_, ?_⟩
      · obtain ⟨_, _⟩ := hb.at2 XK.out
        simp only [headOps, List.contains, List.elem, reduceIte, Bool.false_eq_true]
        repeat (first | go_big_quiet_step (first | (go_at_call 101; exact Calls.of_same (iswing _ _ (by omega) (by omega)))) | quiet_step (fail))
        exact wpQuiet_nil rfl
      intro w3 hg3
      have G3 := hid (HG.out.trans hg3)
      clear hg3
      go_wp2_with fail
      exact ⟨⟨1, by simp, by omega, by simp, G3.out⟩, by simp [intOf]⟩
    | 1, _ =>
      go_wp2_with fail
      refine wp_reg0 9 (by kernel_rfl) (by kernel_rfl) ?_
      apply Exists.intro
      refine ⟨fun wb hb => ?_, ?_⟩
      · obtain ⟨_, _⟩ := hb.at2 XK.out
        simp only [headOps, List.contains, List.elem, reduceIte, Bool.false_eq_true]
        repeat (first | go_big_quiet_step (first | (go_at_call 102; exact Calls.of_same (iswingA _ _ (by omega) (by omega)))) | quiet_step (fail))
        exact wpQuiet_nil rfl
      intro w3 hg3
      have G3 := hid (HG.out.trans hg3)
      clear hg3
      go_wp2_with fail
      exact ⟨⟨2, by simp, by omega, by simp, G3.out⟩, by simp [intOf]⟩
    | 2, _ =>
      go_wp2_with fail
      go_ret
      exact ⟨ret_int (by simp), G2.out.trans HG.out⟩
set_option maxRecDepth 20000 in
set_option maxHeartbeats 1000000 in
theorem sOff (b : Nat) (T : TypeId) (A : Option Addr) (n c : Nat) (e no a : Int) (w : World) (XB : Hid (w.heap[b]? = some (.cells #[.slice A n c, .int .i64 e, .int .i64 no] T))) (h1 : -600 ≤ e ∧ e ≤ 600) (h2 : -600 ≤ no ∧ no ≤ 600) (a1 : 0 ≤ a) (a2 : a < 1296000) :
    Calls Try.prog 69 #[.pointer (some ⟨b, 0, none⟩), .int .i64 a] w fun x w' => x = .returned (.int .i64 (offI e no a)) ∧ Gr w w' := by
  obtain ⟨⟨m1, m2⟩, m3, m4⟩ := off_bd h1 h2 a1 a2
  obtain ⟨_, _⟩ := h1
  obtain ⟨_, _⟩ := h2
  obtain ⟨_, _⟩ := wrap_bd (a + 324000)
  unfold offI
  go_enter Try.func69, Try.ntmps69
  go_wp2_with fail
  refine wp_reg0 17 (by kernel_rfl) (by kernel_rfl) ?_
  apply Exists.intro
  refine ⟨fun wb hb => ?_, ?_⟩
  · obtain ⟨_, _, _⟩ := hb.at3 XB.out
    simp only [headOps, List.contains, List.elem, reduceIte, Bool.false_eq_true]
    repeat (first | go_big_quiet_step (first | (go_at_call 92; exact Calls.of_same (sswing _ _ (by omega) (by omega))) | (go_at_call 48; exact Calls.of_same (swrap _ _ (by omega) (by omega)))) | quiet_step (fail))
    exact wpQuiet_nil rfl
  intro w1 hg1
  have G1 := hid hg1
  clear hg1
  go_wp2_with fail
  go_ret
  exact ⟨rfl, G1.out⟩
theorem ask_yes {xs : List Int} {e no a : Int} (h : (dkB xs e no && angB a) = true) : dkB xs e no = true ∧ angB a = true := by simpa using h
set_option maxRecDepth 20000 in
set_option maxHeartbeats 1000000 in
theorem iSwingAt_no (A : Option Addr) (c : Nat) (xs : List Int) (e no a : Int) (w : World) (X : Hid (RdH w A xs)) (hn : xs.length ≤ 1048576) (hh : xs.all okH = true) (hk : (dkB xs e no && angB a) = false) :
    Calls Try.prog 30 #[dk A xs.length c e no, .int .i64 a] w fun x w' => x = .returned (.tuple #[fr 0 0, .int .i64 1]) ∧ Gr w w' := by
  have HD := hid fun w' (hg : Gr w w') (X2 : Hid (RdI w' (some ⟨w.heap.size + 1 + 1, 0, none⟩) [a])) => iDkWith A (some ⟨w.heap.size + 1 + 1, 0, none⟩) c 1 xs [a] e no w' (hid (X.out.keep hg)) X2 hn hh (by simp)
  have e1 : (dkB xs e no && [a].all angB) = false := by simpa using hk
  rw [e1] at HD
  clear hh hk e1
  go_enter Try.func30, Try.ntmps30
  go_wp2_with fail
  refine (HD.out _ ((((Gr.refl w).al _).al _).al _) (hid (RdI.of_block (xs := [a]) (alloc3 (Gr.refl _)).2.2.1))).mono ?_
  rintro e w1 ⟨rfl, hg1⟩
  obtain ⟨x1_0, x1_1, x1_2, hz1, g1⟩ := alloc3 hg1
  obtain ⟨_, _, _⟩ := cells3 x1_0
  have _ := fz x1_0
  have _ := ltb x1_0
  obtain ⟨_, _⟩ := cells2 x1_1
  have _ := fz x1_1
  have _ := ltb x1_1
  have _ := cells1 x1_2
  have _ := fz x1_2
  have _ := ltb x1_2
  have X1_0 := hid x1_0; clear x1_0
  have X1_1 := hid x1_1; clear x1_1
  have X1_2 := hid x1_2; clear x1_2
  have G1 := hid (g1)
  clear hg1 g1
  go_wp2
  refine bodyPost_ret (v := .tuple #[fr 0 0, .int .i64 1]) (by simp [results, Try.results30, go_sem, *]) rfl ⟨rfl, ?_⟩
  exact ((G1.out).setCell (by simp <;> omega) _).setCell (by simp <;> omega) _
set_option maxRecDepth 20000 in
set_option maxHeartbeats 1000000 in
theorem iSwingAt_yes (A : Option Addr) (c : Nat) (xs : List Int) (e no a P Q C : Int) (w : World) (X : Hid (RdH w A xs)) (hn : xs.length ≤ 1048576) (hh : xs.all okH = true) (hk : (dkB xs e no && angB a) = true)
    (hm : ∀ w, Calls Try.prog 67 #[.int .i64 (offI e no a * 4), .int .i64 1296000] w fun e w' => e = .returned (.tuple #[fr P Q, .int .i64 C]) ∧ Gr w w') :
    Calls Try.prog 30 #[dk A xs.length c e no, .int .i64 a] w fun x w' => x = .returned (.tuple #[fr P Q, .int .i64 C]) ∧ Gr w w' := by
  have HD := hid fun w' (hg : Gr w w') (X2 : Hid (RdI w' (some ⟨w.heap.size + 1 + 1, 0, none⟩) [a])) => iDkWith A (some ⟨w.heap.size + 1 + 1, 0, none⟩) c 1 xs [a] e no w' (hid (X.out.keep hg)) X2 hn hh (by simp)
  have e1 : (dkB xs e no && [a].all angB) = true := by simpa using hk
  rw [e1] at HD
  obtain ⟨_, d1, d2, _⟩ := dk_parts (ask_yes hk).1
  obtain ⟨a1, a2⟩ := ang_bd (ask_yes hk).2
  have HS := hid fun w => iDkSwing A xs.length c e no a w d1 d2 a1 (by omega)
  have HM := hid hm
  clear hh hk e1 hm d1 d2
  go_enter Try.func30, Try.ntmps30
  go_wp2_with fail
  refine (HD.out _ ((((Gr.refl w).al _).al _).al _) (hid (RdI.of_block (xs := [a]) (alloc3 (Gr.refl _)).2.2.1))).mono ?_
  rintro e w1 ⟨rfl, hg1⟩
  obtain ⟨x1_0, x1_1, x1_2, hz1, g1⟩ := alloc3 hg1
  obtain ⟨_, _, _⟩ := cells3 x1_0
  have _ := fz x1_0
  have _ := ltb x1_0
  obtain ⟨_, _⟩ := cells2 x1_1
  have _ := fz x1_1
  have _ := ltb x1_1
  have _ := cells1 x1_2
  have _ := fz x1_2
  have _ := ltb x1_2
  have X1_0 := hid x1_0; clear x1_0
  have X1_1 := hid x1_1; clear x1_1
  have X1_2 := hid x1_2; clear x1_2
  have G1 := hid (g1)
  clear hg1 g1
  go_wp2_with fail
  refine (HS.out _).mono ?_
  rintro e w2 ⟨rfl, hg2⟩
  have x2_1 := hg2.keep X1_0.out
  have x2_2 := hg2.keep X1_1.out
  have x2_3 := hg2.keep X1_2.out
  obtain ⟨_, _, _⟩ := cells3 x2_1
  have _ := fz x2_1
  have _ := ltb x2_1
  obtain ⟨_, _⟩ := cells2 x2_2
  have _ := fz x2_2
  have _ := ltb x2_2
  have _ := cells1 x2_3
  have _ := fz x2_3
  have _ := ltb x2_3
  have X2_1 := hid x2_1; clear x2_1
  have X2_2 := hid x2_2; clear x2_2
  have X2_3 := hid x2_3; clear x2_3
  have G2 := hid (G1.out.trans hg2)
  clear hg2
  go_wp2_with fail
  refine (HM.out _).mono ?_
  rintro e w3 ⟨rfl, hg3⟩
  have x3_1 := hg3.keep X2_1.out
  have x3_2 := hg3.keep X2_2.out
  have x3_3 := hg3.keep X2_3.out
  obtain ⟨_, _, _⟩ := cells3 x3_1
  have _ := fz x3_1
  have _ := ltb x3_1
  obtain ⟨_, _⟩ := cells2 x3_2
  have _ := fz x3_2
  have _ := ltb x3_2
  have _ := cells1 x3_3
  have _ := fz x3_3
  have _ := ltb x3_3
  have X3_1 := hid x3_1; clear x3_1
  have X3_2 := hid x3_2; clear x3_2
  have X3_3 := hid x3_3; clear x3_3
  have G3 := hid (G2.out.trans hg3)
  clear hg3
  go_wp2
  refine bodyPost_ret (v := .tuple #[fr P Q, .int .i64 C]) (by simp [results, Try.results30, go_sem, *]) rfl ⟨rfl, ?_⟩
  exact ((G3.out).setCell (by simp <;> omega) _).setCell (by simp <;> omega) _
set_option maxRecDepth 20000 in
set_option maxHeartbeats 1000000 in
theorem sSwingAt_no (A : Option Addr) (c : Nat) (xs : List Int) (e no a : Int) (w : World) (X : Hid (RdH w A xs)) (hn : xs.length ≤ 1048576) (hh : xs.all okH = true) (hk : (dkB xs e no && angB a) = false) :
    Calls Try.prog 29 #[dk A xs.length c e no, .int .i64 a] w fun x w' => x = .returned (.tuple #[fr 0 0, .int .i64 1]) ∧ Gr w w' := by
  have HA := hid fun (w' : World) (b : Nat) (T : TypeId) (XB : Hid (w'.heap[b]? = some (.cells #[.slice A xs.length c, .int .i64 e, .int .i64 no] T))) (hg : Gr w w') => sAsked b T A c xs e no a w' XB (hid (X.out.keep hg)) hn hh
  rw [hk] at HA
  clear hh hk
  go_enter Try.func29, Try.ntmps29
  go_wp2_with fail
  refine (HA.out _ _ _ (hid (alloc2 (Gr.refl _)).1) (((Gr.refl w).al _).al _)).mono ?_
  rintro x w1 ⟨rfl, rfl⟩
  rw [if_neg (by simp)]
  go_wp2_with fail
  refine bodyPost_ret (v := .tuple #[fr 0 0, .int .i64 1]) (by simp [results, Try.results29, go_sem, *]) rfl ⟨rfl, ?_⟩
  exact ((Gr.refl w).al _).al _
set_option maxRecDepth 20000 in
set_option maxHeartbeats 1000000 in
theorem sSwingAt_yes (A : Option Addr) (c : Nat) (xs : List Int) (e no a P Q C : Int) (w : World) (X : Hid (RdH w A xs)) (hn : xs.length ≤ 1048576) (hh : xs.all okH = true) (hk : (dkB xs e no && angB a) = true)
    (hm : ∀ w, Calls Try.prog 65 #[.int .i64 (offI e no a), .int .i64 324000] w fun e w' => e = .returned (.tuple #[fr P Q, .int .i64 C]) ∧ Gr w w') :
    Calls Try.prog 29 #[dk A xs.length c e no, .int .i64 a] w fun x w' => x = .returned (.tuple #[fr P Q, .int .i64 C]) ∧ Gr w w' := by
  have HA := hid fun (w' : World) (b : Nat) (T : TypeId) (XB : Hid (w'.heap[b]? = some (.cells #[.slice A xs.length c, .int .i64 e, .int .i64 no] T))) (hg : Gr w w') => sAsked b T A c xs e no a w' XB (hid (X.out.keep hg)) hn hh
  obtain ⟨_, d1, d2, _⟩ := dk_parts (ask_yes hk).1
  obtain ⟨a1, a2⟩ := ang_bd (ask_yes hk).2
  have HS := hid fun (w' : World) (b : Nat) (T : TypeId) (XB : Hid (w'.heap[b]? = some (.cells #[.slice A xs.length c, .int .i64 e, .int .i64 no] T))) => sOff b T A xs.length c e no a w' XB d1 d2 a1 (by omega)
  have HM := hid hm
  rw [hk] at HA
  clear hh hk hm d1 d2
  go_enter Try.func29, Try.ntmps29
  go_wp2_with fail
  refine (HA.out _ _ _ (hid (alloc2 (Gr.refl _)).1) (((Gr.refl w).al _).al _)).mono ?_
  rintro x w1 ⟨rfl, rfl⟩
  rw [if_pos trivial]
  go_wp2_with fail
  refine (HS.out _ _ _ (hid (alloc2 (Gr.refl _)).1)).mono ?_
  rintro x w2 ⟨rfl, hg2⟩
  obtain ⟨_, x1, _, G2⟩ := alloc2 hg2
  have X1 := hid x1; have G2 := hid G2
  clear hg2 x1
  go_wp2_with fail
  refine (HM.out _).mono ?_
  rintro x w3 ⟨rfl, hg3⟩
  obtain ⟨_, _⟩ := cells2 (hg3.keep X1.out)
  have _ := fz (hg3.keep X1.out)
  have _ := ltb (hg3.keep X1.out)
  have G3 := hid (G2.out.trans hg3)
  clear hg3
  go_wp2_with fail
  refine bodyPost_ret (v := .tuple #[fr P Q, .int .i64 C]) (by simp [results, Try.results29, go_sem, *]) rfl ⟨rfl, ?_⟩
  exact (G3.out.setCell (by simp) _).setCell (by simp) _
theorem bothSwingAt (xs : List Int) (e no a : Int) (hn : xs.length ≤ 1048576) (hh : xs.all okH = true) : ∃ P Q C : Int,
    (∀ (A : Option Addr) (c : Nat) (w : World), Hid (RdH w A xs) → Calls Try.prog 29 #[dk A xs.length c e no, .int .i64 a] w fun x w' => x = .returned (.tuple #[fr P Q, .int .i64 C]) ∧ Gr w w') ∧
    (∀ (A : Option Addr) (c : Nat) (w : World), Hid (RdH w A xs) → Calls Try.prog 30 #[dk A xs.length c e no, .int .i64 a] w fun x w' => x = .returned (.tuple #[fr P Q, .int .i64 C]) ∧ Gr w w') := by
  cases hk : (dkB xs e no && angB a) with
  | false => exact ⟨0, 0, 1, fun A c w X => sSwingAt_no A c xs e no a w X hn hh hk, fun A c w X => iSwingAt_no A c xs e no a w X hn hh hk⟩
  | true =>
    obtain ⟨_, d1, d2, _⟩ := dk_parts (ask_yes hk).1
    obtain ⟨a1, a2⟩ := ang_bd (ask_yes hk).2
    obtain ⟨⟨m1, m2⟩, m3, m4⟩ := off_bd d1 d2 a1 (show a < 1296000 by omega)
    have o1 : -388800000 ≤ offI e no a := by unfold offI; omega
    have o2 : offI e no a ≤ 388800000 := by unfold offI; omega
    have hs := fun w => sred_any (offI e no a) 324000 w (by omega) (by omega) (by omega) (by omega) (by omega)
    have hi := fun w => iMakeR (4 * offI e no a) (4 * 324000) w (by omega) (by omega) (by omega) (by omega)
    obtain ⟨r1, r2, r3⟩ := r_scale (n := 4) (p := offI e no a) (q := 324000) (by omega) (by omega)
    rw [r1, r2, r3, Int.mul_comm 4 (offI e no a)] at hi
    exact ⟨_, _, _, fun A c w X => sSwingAt_yes A c xs e no a _ _ _ w X hn hh hk hs, fun A c w X => iSwingAt_yes A c xs e no a _ _ _ w X hn hh hk hi⟩
end Go.Proofs.Ytlekfoboolemgaa
