/- The law FnExactNearestTo of the laws package returns true for every two arguments, valid or not; each argument reads behind the call as before it. No condition. -/
import Derived.Test.YtlclcpmlkfebhaaRows
import Derived.Test.YtlclcpmlkfebhaaP
import Derived.Test.YtlclcpmlkfebhaaM
import Derived.Test.YtlclcpmlkfebhaaFactsM
import Derived.ProofKit
import Derived.Lib.SmallJoins
namespace Go.Proofs.Ytlclcpmlkfebhaa
open Go.RowKit Go.Sort

set_option maxHeartbeats 1000000 in
theorem lawNearestTo (a b c d P C : Int) (w : World) (hs : ∀ w, Calls Try.prog 10 #[fr a b, fr c d] w fun e w' => e = .returned (.tuple #[.int .i64 P, .int .i64 C]) ∧ Gr w w')
     (hi : ∀ w, Calls Try.prog 12 #[fr a b, fr c d] w fun e w' => e = .returned (.tuple #[.int .i64 P, .int .i64 C]) ∧ Gr w w') :
    Calls Try.prog 4 #[fr a b, fr c d] w fun e w' => e = .returned (.bool true) ∧ Gr w w' := by
  have Hs := hid hs; clear hs
  have Hi := hid hi; clear hi
  go_enter Try.func4, Try.ntmps4
  go_wp2_with fail
  refine wp_reg0 9 (by kernel_rfl) (by kernel_rfl) ?_
  apply Exists.intro
  refine ⟨fun wb hb => ?_, ?_⟩
  · obtain ⟨x0, x1, _, _⟩ := alloc2 (Gr.refl _)
    obtain ⟨_, _⟩ := hb.at2 x0
    obtain ⟨_, _⟩ := hb.at2 x1
    clear x0 x1
    simp only [headOps, List.contains, List.elem, reduceIte, Bool.false_eq_true]
    repeat (first | go_big_quiet_step (first | (go_at_call 11; exact Calls.of_gr (toFrac_any _ _ _)) | (go_at_call 10; exact Calls.of_gr (Hs.out _))) | quiet_step (fail))
    exact wpQuiet_nil rfl
  intro w1 hg1
  obtain ⟨x0, x1, _, G1⟩ := alloc2 hg1
  have X0 := hid x0; have X1 := hid x1
  clear hg1 x0 x1
  go_wp2_with fail
  refine wp_reg0 9 (by kernel_rfl) (by kernel_rfl) ?_
  apply Exists.intro
  refine ⟨fun wb hb => ?_, ?_⟩
  · obtain ⟨_, _⟩ := hb.at2 X0.out
    obtain ⟨_, _⟩ := hb.at2 X1.out
    simp only [headOps, List.contains, List.elem, reduceIte, Bool.false_eq_true]
    repeat (first | go_big_quiet_step (first | (go_at_call 11; exact Calls.of_gr (toFrac_any _ _ _)) | (go_at_call 12; exact Calls.of_gr (Hi.out _))) | quiet_step (fail))
    exact wpQuiet_nil rfl
  intro w2 hg2
  have G2 := hid (G1.trans hg2)
  clear hg2 G1
  go_wp2
  go_ret
  exact ⟨rfl, G2.out⟩

open Go.ChangeShapes Go.WideShapes Go.ChangeAt Go.Joins

theorem ownNearestTo : ownKnob Try.prog.godebug = none := by kernel_rfl
theorem cellsNearestTo : Try.prog.cellsOf 27 = 2 := by kernel_rfl

set_option maxRecDepth 100000 in
theorem liftedNearestTo (os : Os) (started : os.Started) (H : Type) (enc : TypeId × Value → H) :
    ReturnsInHanded {} Try.checked os 4 .any (Rows.fnExactNearestToSpec.pre6 enc Try.prog Try.f4 Rows.fnExactNearestToRow.domain false) (Rows.fnExactNearestToSpec.post enc Try.prog Try.f4 false true false false) := by
  refine returnsInHanded_of_change (C := Try.checked) ownNearestTo started (by kernel_rfl) Try.func4
    (ChangeSpec.witness6 (enc := enc) (C := Try.checked) false ⟨#[], #[fr 0 0, fr 0 0], []⟩ 8 (by kernel_rfl) (by kernel_rfl) (by kernel_rfl) (by kernel_rfl)) ?_
  intro W base args ds gs before hval0 hW _ _
  have hval : ∀ (j : Nat) t v, Try.f4.params[j]? = some t → args[j]? = some v → Value.okWide Try.prog W .any base t v := hval0
  have hW' := hW
  obtain ⟨p, q, hA0, hV, rfl, _, _⟩ := hW
  have hA : DataW.TrodAll enc Try.prog W 0 (fun _ => true) true Try.f4.params.toList args.toList ds p := hA0
  rw [Try.params4] at hA hval
  obtain ⟨v0, v1, d0, d1, p0, p1, rfl, rfl, rfl, h0, h1⟩ := trodAll_two hA
  obtain ⟨rfl, rfl⟩ := trodVars_none hV
  obtain ⟨c0, c1, y0, y1, m0, rfl, rfl, rfl, hy0, hy1⟩ := open_agg2 Try.underlying27 (by kernel_rfl) cellsNearestTo (hval 0 27 v0 rfl rfl) h0
  obtain ⟨a, e0, rfl, wa⟩ := DataW.trod_int Try.underlying2 hy0
  obtain ⟨b, e1, rfl, wb⟩ := DataW.trod_int Try.underlying2 hy1
  simp at e0 e1
  subst e0 e1
  obtain ⟨c2, c3, y2, y3, m1, rfl, rfl, rfl, hy2, hy3⟩ := open_agg2 Try.underlying27 (by kernel_rfl) cellsNearestTo (hval 1 27 v1 rfl rfl) h1
  obtain ⟨c, e2, rfl, wc⟩ := DataW.trod_int Try.underlying2 hy2
  obtain ⟨d, e3, rfl, wd⟩ := DataW.trod_int Try.underlying2 hy3
  simp at e2 e3
  subst e2 e3
  clear hA0 hval0
  simp only [List.append_nil] at hW'
  have reads : ∀ (x y : Int) (_ : (Lit.int .i64 x).wf = true) (_ : (Lit.int .i64 y).wf = true) (W' : World) (sp : Nat → Bool), DataW.Trod enc Try.prog W' 0 sp true 27 (fr x y) (.agg [.lit (.int .i64 x), .lit (.int .i64 y)]) [] := fun x y wx wy W' sp =>
    shut_agg2 (y0 := (.lit (.int .i64 x), [])) (y1 := (.lit (.int .i64 y), [])) Try.underlying27 (by kernel_rfl) cellsNearestTo ⟨1, by simp [DataW.trod, Try.underlying2, wx]⟩ ⟨1, by simp [DataW.trod, Try.underlying2, wy]⟩
  have done : ∀ (e : Ending) (W' : World), e = .returned (.bool true) ∧ Gr W W' → ∃ v, e = .returned v ∧ Rows.fnExactNearestToSpec.post enc Try.prog Try.f4 false true false false W #[fr a b, fr c d] v W' := fun e W' ⟨he, hg⟩ => by
    subst he
    exact ⟨_, rfl, _, _, _, [], [], [], hW', trodAll_mk1 (shut_bool Try.underlying4 _), trodAll_mk2 (reads a b wa wb _ _) (reads c d wc wd _ _), rfl, hg.below.frame _, fun h => by cases h⟩
  cases h1 : okB a b with
  | false => exact (lawNearestTo a b c d _ _ W (fun w => sNearest_inv a b c d w (by rw [h1]; rfl)) (fun w => iNearest_n1 a b c d w h1)).mono done
  | true =>
    cases h2 : okB c d with
    | false => exact (lawNearestTo a b c d _ _ W (fun w => sNearest_inv a b c d w (by rw [h1, h2]; rfl)) (fun w => iNearest_n2 a b c d w h1 h2)).mono done
    | true =>
      rcases Int.lt_or_le 0 c with hc | hc
      · cases hn : gtB (nearI a b c d) 1000000000 with
        | false => exact (lawNearestTo a b c d _ _ W (fun w => sNearest_yes a b c d w h1 h2 hc (gt_in hn)) (fun w => iNearest_yes a b c d w h1 h2 hc hn)).mono done
        | true => exact (lawNearestTo a b c d _ _ W (fun w => sNearest_no a b c d w h1 h2 hc (gt_out hn)) (fun w => iNearest_no a b c d w h1 h2 hc hn)).mono done
      · exact (lawNearestTo a b c d _ _ W (fun w => sNearest_rng a b c d w (by rw [h1, h2]; rfl) hc) (fun w => iNearest_rng a b c d w h1 h2 hc)).mono done

set_option maxHeartbeats 2000000 in
theorem closedNearestTo : joinedFacts Try.pinned.checked.prog 4 Try.f4 Rows.fnExactNearestToSpec Rows.fnExactNearestToRow = true := by
  unfold joinedFacts
  refine Bool.and_eq_true_iff.2 ⟨?_, by as_aux_lemma => kernel_rfl⟩
  refine Bool.and_eq_true_iff.2 ⟨?_, by as_aux_lemma => kernel_rfl⟩
  refine Bool.and_eq_true_iff.2 ⟨?_, by as_aux_lemma => kernel_rfl⟩
  refine Bool.and_eq_true_iff.2 ⟨?_, by as_aux_lemma => kernel_rfl⟩
  refine Bool.and_eq_true_iff.2 ⟨?_, by rw [fact_make]; rfl⟩
  refine Bool.and_eq_true_iff.2 ⟨?_, by rw [fact_final]; rfl⟩
  refine Bool.and_eq_true_iff.2 ⟨?_, fact_enters⟩
  refine Bool.and_eq_true_iff.2 ⟨?_, by as_aux_lemma => kernel_rfl⟩
  refine Bool.and_eq_true_iff.2 ⟨?_, by as_aux_lemma => kernel_rfl⟩
  refine Bool.and_eq_true_iff.2 ⟨?_, by as_aux_lemma => kernel_rfl⟩
  refine Bool.and_eq_true_iff.2 ⟨?_, by as_aux_lemma => kernel_rfl⟩
  refine Bool.and_eq_true_iff.2 ⟨?_, by as_aux_lemma => kernel_rfl⟩
  refine Bool.and_eq_true_iff.2 ⟨?_, by as_aux_lemma => kernel_rfl⟩
  refine Bool.and_eq_true_iff.2 ⟨?_, by as_aux_lemma => kernel_rfl⟩
  refine Bool.and_eq_true_iff.2 ⟨?_, by as_aux_lemma => kernel_rfl⟩
  refine Bool.and_eq_true_iff.2 ⟨?_, by as_aux_lemma => kernel_rfl⟩
  refine Bool.and_eq_true_iff.2 ⟨?_, by as_aux_lemma => kernel_rfl⟩
  refine Bool.and_eq_true_iff.2 ⟨?_, by as_aux_lemma => kernel_rfl⟩
  refine Bool.and_eq_true_iff.2 ⟨?_, by as_aux_lemma => kernel_rfl⟩
  refine Bool.and_eq_true_iff.2 ⟨?_, by as_aux_lemma => kernel_rfl⟩
  refine Bool.and_eq_true_iff.2 ⟨?_, by as_aux_lemma => kernel_rfl⟩
  refine Bool.and_eq_true_iff.2 ⟨?_, by as_aux_lemma => kernel_rfl⟩
  refine Bool.and_eq_true_iff.2 ⟨?_, by as_aux_lemma => kernel_rfl⟩
  refine Bool.and_eq_true_iff.2 ⟨?_, by as_aux_lemma => kernel_rfl⟩
  refine Bool.and_eq_true_iff.2 ⟨?_, by as_aux_lemma => kernel_rfl⟩
  refine Bool.and_eq_true_iff.2 ⟨?_, by as_aux_lemma => kernel_rfl⟩
  refine Bool.and_eq_true_iff.2 ⟨?_, by as_aux_lemma => kernel_rfl⟩
  refine Bool.and_eq_true_iff.2 ⟨?_, by as_aux_lemma => kernel_rfl⟩
  refine Bool.and_eq_true_iff.2 ⟨?_, by as_aux_lemma => kernel_rfl⟩
  refine Bool.and_eq_true_iff.2 ⟨?_, by as_aux_lemma => kernel_rfl⟩
  as_aux_lemma => kernel_rfl
theorem nearestTo_holds : Rows.FnExactNearestToSaid :=
  OpenClaim.holds_of_wide 4 Try.f4 rfl rfl rfl rfl rfl rfl rfl ⟨rfl, rfl, rfl, rfl, rfl⟩ rfl rfl rfl rfl rfl (by as_aux_lemma => kernel_rfl) Try.func4 closedNearestTo
    (of_decide_eq_true (by as_aux_lemma => kernel_rfl)) (by unfold Func.isWrapper; rw [if_neg (by decide +kernel)]; exact ⟨rfl, rfl⟩)
    (fun os started H enc _ => liftedNearestTo os started H enc)
#print axioms nearestTo_holds
end Go.Proofs.Ytlclcpmlkfebhaa
