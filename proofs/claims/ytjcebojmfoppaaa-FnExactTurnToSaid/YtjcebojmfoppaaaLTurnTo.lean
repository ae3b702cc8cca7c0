/- The law FnExactTurnTo of the laws package returns true for all arguments, valid or not; each argument reads behind the call as before it. No condition. -/
import Derived.Test.YtjcebojmfoppaaaRows
import Derived.Test.YtjcebojmfoppaaaX9
import Derived.Test.YtjcebojmfoppaaaRd
import Derived.Test.YtjcebojmfoppaaaRd2
import Derived.Test.YtjcebojmfoppaaaFactsM
import Derived.ProofKit
import Derived.Carry
import Derived.Lib.SmallJoins
namespace Go.Proofs.Ytjcebojmfoppaaa
open Go.RowKit Go.Sort

set_option maxRecDepth 20000 in
set_option maxHeartbeats 1000000 in
theorem lawTurnTo (a0 : Int) (a1 : Int) (a2 : Int) (a3 : Int) (a4 : Int) (a5 : Int) (a6 : Int) (a7 : Int) (a8 : Int) (a9 : Int) (a10 : Int) (R0 : Int) (R1 : Int) (R2 : Int) (R3 : Int) (R4 : Int) (w : World) (hs : ∀ w, Calls Try.prog 25 #[sc a0 a1 a2 a3 a4, spi a5 a6 a7, fr a8 a9, .int .i64 a10] w fun e w' => e = .returned (.tuple #[spi R0 R1 R2, .int .i64 R3, .int .i64 R4]) ∧ Gr w w')
     (hi : ∀ w, Calls Try.prog 27 #[sc a0 a1 a2 a3 a4, spi a5 a6 a7, fr a8 a9, .int .i64 a10] w fun e w' => e = .returned (.tuple #[spi R0 R1 R2, .int .i64 R3, .int .i64 R4]) ∧ Gr w w') :
    Calls Try.prog 8 #[sc a0 a1 a2 a3 a4, spi a5 a6 a7, fr a8 a9, .int .i64 a10] w fun e w' => e = .returned (.bool true) ∧ Gr w w' := by
  have Hs := hid hs; clear hs
  have Hi := hid hi; clear hi
  go_enter Try.func8, Try.ntmps8
  go_wp2_with fail
  refine wp_reg1s #[.int .i64 0, .int .i64 0, .int .i64 0] 15 12 9 13 24 (by kernel_rfl) (by kernel_rfl) rfl rfl (by simp) rfl rfl (by decide) (fun _ _ => by kernel_rfl) (by kernel_rfl) ?_
  apply Exists.intro; apply Exists.intro
  refine ⟨fun wb hb => ?_, ?_⟩
  · obtain ⟨x0, x1, x2, _, _⟩ := alloc3 (Gr.refl _)
    obtain ⟨_, _, _, _, _⟩ := hb.at5 x0
    obtain ⟨_, _, _⟩ := hb.at3 x1
    obtain ⟨_, _⟩ := hb.at2 x2
    clear x0 x1 x2
    simp only [headOps, List.contains, List.elem, Nat.reduceAdd, Nat.reduceBEq, reduceIte, Bool.false_eq_true, dumOp]
    repeat (first | go_big_quiet_step (first | (go_at_call 14; exact Calls.of_gr (toScrew_any _ _ _ _ _ _)) | (go_at_call 17; exact Calls.of_gr (toSpindle_any _ _ _ _)) | (go_at_call 26; exact Calls.of_gr (toFrac_any _ _ _)) | (go_at_call 25; exact Calls.of_gr (Hs.out _))) | quiet_step (fail))
    exact wpQuiet_nil rfl
  refine ⟨rfl, ⟨rfl, by simp [Value.oneCell']⟩, fun w1 b1 hg1 _ hk1 => ?_⟩
  obtain ⟨x0, x1, x2, _, G1⟩ := alloc3 hg1
  have X0 := hid x0
  have X1 := hid x1
  have X2 := hid x2
  have G1 := hid G1
  have Y1 := hid hk1; clear hk1
  clear hg1 x0 x1 x2
  go_wp2_with fail
  refine wp_reg1s #[.int .i64 0, .int .i64 0, .int .i64 0] 15 12 12 13 36 (by kernel_rfl) (by kernel_rfl) rfl rfl (by simp) rfl rfl (by decide) (fun _ _ => by kernel_rfl) (by kernel_rfl) ?_
  apply Exists.intro; apply Exists.intro
  refine ⟨fun wb hb => ?_, ?_⟩
  · obtain ⟨_, _, _, _, _⟩ := hb.at5 X0.out
    obtain ⟨_, _, _⟩ := hb.at3 X1.out
    obtain ⟨_, _⟩ := hb.at2 X2.out
    simp only [headOps, List.contains, List.elem, Nat.reduceAdd, Nat.reduceBEq, reduceIte, Bool.false_eq_true, dumOp]
    repeat (first | go_big_quiet_step (first | (go_at_call 14; exact Calls.of_gr (toScrew_any _ _ _ _ _ _)) | (go_at_call 17; exact Calls.of_gr (toSpindle_any _ _ _ _)) | (go_at_call 26; exact Calls.of_gr (toFrac_any _ _ _)) | (go_at_call 27; exact Calls.of_gr (Hi.out _))) | quiet_step (fail))
    exact wpQuiet_nil rfl
  refine ⟨rfl, ⟨rfl, by simp [Value.oneCell']⟩, fun w2 b2 hg2 _ hk2 => ?_⟩
  obtain ⟨_, _, _⟩ := cells3 (hg2.keep Y1.out)
  obtain ⟨_, _, _⟩ := cells3 hk2
  have G2 := hid (G1.out.trans hg2)
  clear hg2 hk2
  go_wp2_with fail
  refine (eqSpindle_any _ _ _ _).mono ?_
  rintro e w3 ⟨rfl, hg3⟩
  have G3 := hid (G2.out.trans hg3)
  clear hg3
  go_wp2
  go_ret
  exact ⟨rfl, G3.out⟩

open Go.ChangeShapes Go.WideShapes Go.ChangeAt Go.Joins
set_option maxRecDepth 100000 in
theorem liftedTurnTo (os : Os) (started : os.Started) (H : Type) (enc : TypeId × Value → H) :
    ReturnsInHanded {} Try.checked os 8 .any (Rows.fnExactTurnToSpec.pre6 enc Try.prog Try.f8 Rows.fnExactTurnToRow.domain false) (Rows.fnExactTurnToSpec.post enc Try.prog Try.f8 false true false false) := by
  refine returnsInHanded_of_change (C := Try.checked) ownNone started (by kernel_rfl) Try.func8
    (ChangeSpec.witness6 (enc := enc) (C := Try.checked) false ⟨#[], #[sc 0 0 0 0 0, spi 0 0 0, fr 0 0, .int .i64 0], []⟩ 8 (by kernel_rfl) (by kernel_rfl) (by kernel_rfl) (by kernel_rfl)) ?_
  intro W base args ds gs before hval0 hW _ _
  have hval : ∀ (j : Nat) t v, Try.f8.params[j]? = some t → args[j]? = some v → Value.okWide Try.prog W .any base t v := hval0
  have hW' := hW
  obtain ⟨p, q, hA0, hV, rfl, _, _⟩ := hW
  have hA : DataW.TrodAll enc Try.prog W 0 (fun _ => true) true Try.f8.params.toList args.toList ds p := hA0
  rw [Try.params8] at hA hval
  obtain ⟨v0, v1, v2, v3, d0, d1, d2, d3, p0, p1, p2, p3, rfl, rfl, rfl, h0, h1, h2, h3⟩ := trodAll_four hA
  obtain ⟨rfl, rfl⟩ := trodVars_none hV
  obtain ⟨a0, a1, a2, a3, a4, rfl, rfl, rfl, wa0, wa1, wa2, wa3, wa4⟩ := open_screw (hval 0 31 v0 rfl rfl) h0
  obtain ⟨a5, a6, a7, rfl, rfl, rfl, wa5, wa6, wa7⟩ := open_spindle (hval 1 39 v1 rfl rfl) h1
  obtain ⟨a8, a9, rfl, rfl, rfl, wa8, wa9⟩ := open_frac (hval 2 29 v2 rfl rfl) h2
  obtain ⟨a10, rfl, rfl, rfl, wa10⟩ := open_i64 (hval 3 2 v3 rfl rfl) h3
  clear hA0 hval0 hval hA hV
  simp only [List.append_nil] at hW'
  obtain ⟨R0, R1, R2, R3, R4, hs, hi⟩ := bothTurnTo a0 a1 a2 a3 a4 a5 a6 a7 a8 a9 a10
  refine (lawTurnTo _ _ _ _ _ _ _ _ _ _ _ _ _ _ _ _ W hs hi).mono fun e W' ⟨he, hg⟩ => ?_
  subst he
  exact ⟨_, rfl, _, _, _, [], [], [], hW', trodAll_mk1 (shut_bool Try.underlying4 _), trodAll_mk4 (shut_screw wa0 wa1 wa2 wa3 wa4) (shut_spindle wa5 wa6 wa7) (shut_frac wa8 wa9) (shut_i64 wa10), rfl, hg.below.frame _, fun h => by cases h⟩

set_option maxHeartbeats 2000000 in
theorem closedTurnTo : joinedFacts Try.pinned.checked.prog 8 Try.f8 Rows.fnExactTurnToSpec Rows.fnExactTurnToRow = true := by
  unfold joinedFacts
  refine Bool.and_eq_true_iff.2 ⟨?_, by as_aux_lemma => kernel_rfl⟩
  refine Bool.and_eq_true_iff.2 ⟨?_, by as_aux_lemma => kernel_rfl⟩
  refine Bool.and_eq_true_iff.2 ⟨?_, by as_aux_lemma => kernel_rfl⟩
  refine Bool.and_eq_true_iff.2 ⟨?_, by as_aux_lemma => kernel_rfl⟩
  refine Bool.and_eq_true_iff.2 ⟨?_, by rw [fact_make]; rfl⟩
  refine Bool.and_eq_true_iff.2 ⟨?_, by rw [fact_final]; rfl⟩
  refine Bool.and_eq_true_iff.2 ⟨?_, fact_enters⟩
  refine Bool.and_eq_true_iff.2 ⟨?_, by as_aux_lemma => kernel_rfl⟩
  refine Bool.and_eq_true_iff.2 ⟨?_, by as_aux_lemma => kernel_rfl⟩
  refine Bool.and_eq_true_iff.2 ⟨?_, by as_aux_lemma => kernel_rfl⟩
  refine Bool.and_eq_true_iff.2 ⟨?_, by as_aux_lemma => kernel_rfl⟩
  refine Bool.and_eq_true_iff.2 ⟨?_, by as_aux_lemma => kernel_rfl⟩
  refine Bool.and_eq_true_iff.2 ⟨?_, by as_aux_lemma => kernel_rfl⟩
  refine Bool.and_eq_true_iff.2 ⟨?_, by as_aux_lemma => kernel_rfl⟩
  refine Bool.and_eq_true_iff.2 ⟨?_, by as_aux_lemma => kernel_rfl⟩
  refine Bool.and_eq_true_iff.2 ⟨?_, by as_aux_lemma => kernel_rfl⟩
  refine Bool.and_eq_true_iff.2 ⟨?_, by as_aux_lemma => kernel_rfl⟩
  refine Bool.and_eq_true_iff.2 ⟨?_, by as_aux_lemma => kernel_rfl⟩
  refine Bool.and_eq_true_iff.2 ⟨?_, by as_aux_lemma => kernel_rfl⟩
  refine Bool.and_eq_true_iff.2 ⟨?_, by as_aux_lemma => kernel_rfl⟩
  refine Bool.and_eq_true_iff.2 ⟨?_, by as_aux_lemma => kernel_rfl⟩
  refine Bool.and_eq_true_iff.2 ⟨?_, by as_aux_lemma => kernel_rfl⟩
  refine Bool.and_eq_true_iff.2 ⟨?_, by as_aux_lemma => kernel_rfl⟩
  refine Bool.and_eq_true_iff.2 ⟨?_, by as_aux_lemma => kernel_rfl⟩
  refine Bool.and_eq_true_iff.2 ⟨?_, by as_aux_lemma => kernel_rfl⟩
  refine Bool.and_eq_true_iff.2 ⟨?_, by as_aux_lemma => kernel_rfl⟩
  refine Bool.and_eq_true_iff.2 ⟨?_, by as_aux_lemma => kernel_rfl⟩
  refine Bool.and_eq_true_iff.2 ⟨?_, by as_aux_lemma => kernel_rfl⟩
  refine Bool.and_eq_true_iff.2 ⟨?_, by as_aux_lemma => kernel_rfl⟩
  refine Bool.and_eq_true_iff.2 ⟨?_, by as_aux_lemma => kernel_rfl⟩
  as_aux_lemma => kernel_rfl
theorem turnTo_holds : Rows.FnExactTurnToSaid :=
  OpenClaim.holds_of_wide 8 Try.f8 rfl rfl rfl rfl rfl rfl rfl ⟨rfl, rfl, rfl, rfl, rfl⟩ rfl rfl rfl rfl rfl (by as_aux_lemma => kernel_rfl) Try.func8 closedTurnTo
    (of_decide_eq_true (by as_aux_lemma => kernel_rfl)) (by unfold Func.isWrapper; rw [if_neg (by decide +kernel)]; exact ⟨rfl, rfl⟩)
    (fun os started H enc _ => liftedTurnTo os started H enc)
#print axioms turnTo_holds
end Go.Proofs.Ytjcebojmfoppaaa
