/- WALKS: SwingAt, of the program and of the reference. -/
import Derived.Test.YteopkbeokiomlaaDv
namespace Go.Proofs.Yteopkbeokiomlaa
open Go.RowKit Go.Sort

theorem off_bd {e no a : Int} (h1 : -600 ≤ e ∧ e ≤ 600) (h2 : -600 ≤ no ∧ no ≤ 600) (a1 : 0 ≤ a) (a2 : a < 1296000) :
    (-194400000 ≤ e * swI a ∧ e * swI a ≤ 194400000) ∧ (-194400000 ≤ no * swI (wrapI (a + 324000)) ∧ no * swI (wrapI (a + 324000)) ≤ 194400000) := by
  obtain ⟨s1, s2⟩ := sw_bd a1 a2
  obtain ⟨w1, w2⟩ := wrap_bd (a + 324000)
  obtain ⟨t1, t2⟩ := sw_bd w1 w2
  exact ⟨mul_bdg h1.1 h1.2 s1 s2, mul_bdg h2.1 h2.2 t1 t2⟩
theorem dk_parts {xs : List Int} {e no : Int} (h : dkB xs e no = true) : divB (xs.length : Int) = true ∧ (-600 ≤ e ∧ e ≤ 600) ∧ (-600 ≤ no ∧ no ≤ 600) ∧ xs.all okF = true := by
  unfold dkB inB at h
  simp only [Bool.and_eq_true, decide_eq_true_eq] at h
  exact ⟨h.1.1, h.1.2.1, h.1.2.2, h.2⟩
set_option maxRecDepth 20000 in
set_option maxHeartbeats 1000000 in
theorem iDkSwing (A : Option Addr) (n c : Nat) (e no a : Int) (w : World) (h1 : -600 ≤ e ∧ e ≤ 600) (h2 : -600 ≤ no ∧ no ≤ 600) (a1 : 0 ≤ a) (a2 : a < 1296000) :
    Calls Try.prog 196 #[dk A n c e no, .int .i64 a] w fun x w' => x = .returned (.int .i64 (offI e no a * 4)) ∧ Gr w w' := by
  obtain ⟨⟨m1, m2⟩, m3, m4⟩ := off_bd h1 h2 a1 a2
  obtain ⟨_, _⟩ := h1
  obtain ⟨_, _⟩ := h2
  have hen1 : ∀ s w, (callFunc 229 #[.int .i64 s]).run Try.prog w = .ok (.enter 229 #[.int .i64 s]) w := fun s w => by kernel_rfl
  have hen2 : ∀ s w, (callFunc 230 #[.int .i64 s]).run Try.prog w = .ok (.enter 230 #[.int .i64 s]) w := fun s w => by kernel_rfl
  have hix0 : ∀ w, (Instr.index 233 (.agg #[.func (.func 229) #[] #[], .func (.func 230) #[] #[]]) (.int .i64 0)).run Try.prog w = .ok (.func (.func 229) #[] #[]) w := fun _ => by kernel_rfl
  have hix1 : ∀ w, (Instr.index 233 (.agg #[.func (.func 229) #[] #[], .func (.func 230) #[] #[]]) (.int .i64 1)).run Try.prog w = .ok (.func (.func 230) #[] #[]) w := fun _ => by kernel_rfl
  unfold offI
  go_enter Try.func196, Try.ntmps196
  go_wp2_with fail
  refine wp_reg1 (b0 := .cells #[.int .i64 0, .int .i64 0] 232) 7 5 6 (by kernel_rfl) (by kernel_rfl) rfl rfl (by simp) (fun _ _ => by kernel_rfl) ?_
  apply Exists.intro
  refine ⟨fun wb hb => ?_, ?_⟩
  · obtain ⟨_, _, _⟩ := hb.at3 (alloc1 (Gr.refl _)).1
    simp only [headOps, List.contains, List.elem, Nat.reduceAdd, Nat.reduceBEq, reduceIte, Bool.false_eq_true, dumOp]
    repeat (first | go_big_quiet_step (first | (fail)) | quiet_step (fail))
    exact wpQuiet_nil rfl
  intro w1 b hg1 hb1 xb
  obtain ⟨_, _⟩ := cells2 xb
  have _ := fz xb
  have XB := hid xb
  have Z := hid hb1
  have G1 := hid (((Gr.refl w).al _).trans hg1)
  clear xb hg1 hb1
  simp only [List.drop_succ_cons, List.drop_zero]
  go_wp2_with fail
  refine (iswings _).mono ?_
  rintro x w2 ⟨rfl, hg2⟩
  have X2 := hid (hg2.keep (set2_new XB.out))
  have G2 := hid (((G1.out.setCell (by have := Z.out; simp at this ⊢; omega) _).setCell (by have := Z.out; simp at this ⊢; omega) _).trans hg2)
  clear hg2 XB
  go_wp2_with fail
  go_loopw [5, 15] (fun s u wr => ∃ (k : Nat), u = .int .i64 (k : Int) ∧ k ≤ 2 ∧ s = .int .i64 (if k = 0 then 0 else if k = 1 then e * swI a else e * swI a + no * swI (wrapI (a + 324000))) ∧ Gr w2 wr) (fun _ u _ => 2 - (intOf u).toNat)
  case atStart => exact ⟨0, rfl, by omega, rfl, Gr.refl _⟩
  case round =>
    obtain ⟨k, rfl, hk, rfl, hg⟩ := hrel
    have HG := hid hg
    have xk := hg.keep X2.out
    obtain ⟨_, _⟩ := cells2 xk
    have XK := hid xk
    clear hg xk
    match k, hk with
    | 0, _ =>
      go_wp2_with fail
      refine wp_reg0 9 (by kernel_rfl) (by kernel_rfl) ?_
      apply Exists.intro
      refine ⟨fun wb hb => ?_, ?_⟩
      · obtain ⟨_, _⟩ := hb.at2 XK.out
        simp only [headOps, List.contains, List.elem, reduceIte, Bool.false_eq_true]
        repeat (first | go_big_quiet_step (first | (go_at_call 229; exact Calls.of_same (iswing _ _ (by omega) (by omega)))) | quiet_step (fail))
        exact wpQuiet_nil rfl
      intro w3 hg3
      have G3 := hid (HG.out.trans hg3)
      clear hg3
      go_wp2_with fail
      exact ⟨⟨1, by simp, by omega, by simp, G3.out⟩, by simp [intOf]⟩
    | 1, _ =>
      go_wp2_with fail
      refine wp_reg0 9 (by kernel_rfl) (by kernel_rfl) ?_
      apply Exists.intro
      refine ⟨fun wb hb => ?_, ?_⟩
      · obtain ⟨_, _⟩ := hb.at2 XK.out
        simp only [headOps, List.contains, List.elem, reduceIte, Bool.false_eq_true]
        repeat (first | go_big_quiet_step (first | (go_at_call 230; exact Calls.of_same (iswingA _ _ (by omega) (by omega)))) | quiet_step (fail))
        exact wpQuiet_nil rfl
      intro w3 hg3
      have G3 := hid (HG.out.trans hg3)
      clear hg3
      go_wp2_with fail
      exact ⟨⟨2, by simp, by omega, by simp, G3.out⟩, by simp [intOf]⟩
    | 2, _ =>
      go_wp2_with fail
      go_ret
      exact ⟨ret_int (by simp), G2.out.trans HG.out⟩
set_option maxRecDepth 20000 in
set_option maxHeartbeats 1000000 in
theorem sOff (b : Nat) (T : TypeId) (A : Option Addr) (n c : Nat) (e no a : Int) (w : World) (XB : Hid (w.heap[b]? = some (.cells #[.slice A n c, .int .i64 e, .int .i64 no] T))) (h1 : -600 ≤ e ∧ e ≤ 600) (h2 : -600 ≤ no ∧ no ≤ 600) (a1 : 0 ≤ a) (a2 : a < 1296000) :
    Calls Try.prog 153 #[.pointer (some ⟨b, 0, none⟩), .int .i64 a] w fun x w' => x = .returned (.int .i64 (offI e no a)) ∧ Gr w w' := by
  obtain ⟨⟨m1, m2⟩, m3, m4⟩ := off_bd h1 h2 a1 a2
  obtain ⟨_, _⟩ := h1
  obtain ⟨_, _⟩ := h2
  obtain ⟨_, _⟩ := wrap_bd (a + 324000)
  unfold offI
  go_enter Try.func153, Try.ntmps153
  go_wp2_with fail
  refine wp_reg0 17 (by kernel_rfl) (by kernel_rfl) ?_
  apply Exists.intro
  refine ⟨fun wb hb => ?_, ?_⟩
  · obtain ⟨_, _, _⟩ := hb.at3 XB.out
    simp only [headOps, List.contains, List.elem, reduceIte, Bool.false_eq_true]
    repeat (first | go_big_quiet_step (first | (go_at_call 190; exact Calls.of_same (sswing _ _ (by omega) (by omega))) | (go_at_call 86; exact Calls.of_same (swrap _ _ (by omega) (by omega)))) | quiet_step (fail))
    exact wpQuiet_nil rfl
  intro w1 hg1
  have G1 := hid hg1
  clear hg1
  go_wp2_with fail
  go_ret
  exact ⟨rfl, G1.out⟩
theorem ask_yes {xs : List Int} {e no a : Int} (h : (dkB xs e no && angB a) = true) : dkB xs e no = true ∧ angB a = true := by simpa using h
end Go.Proofs.Yteopkbeokiomlaa
