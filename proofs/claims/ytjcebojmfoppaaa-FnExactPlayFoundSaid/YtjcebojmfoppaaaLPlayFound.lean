/- The law FnExactPlayFound of the laws package returns true for all arguments, valid or not; each argument reads behind the call as before it. No condition. -/
import Derived.Test.YtjcebojmfoppaaaRows
import Derived.Test.YtjcebojmfoppaaaX7
import Derived.Test.YtjcebojmfoppaaaRd
import Derived.Test.YtjcebojmfoppaaaRd2
import Derived.Test.YtjcebojmfoppaaaFactsM
import Derived.ProofKit
import Derived.Lib.SmallJoins
namespace Go.Proofs.Ytjcebojmfoppaaa
open Go.RowKit Go.Sort

set_option maxRecDepth 20000 in
set_option maxHeartbeats 1000000 in
theorem lawPlayFound (a0 : Int) (a1 : Int) (a2 : Int) (a3 : Int) (a4 : Int) (a5 : Int) (a6 : Int) (a7 : Int) (a8 : Int) (R0 : Int) (R1 : Int) (w : World) (hs : ∀ w, Calls Try.prog 28 #[sc a0 a1 a2 a3 a4, spi a5 a6 a7, .int .i64 a8] w fun e w' => e = .returned (.tuple #[.int .i64 R0, .int .i64 R1]) ∧ Gr w w')
     (hi : ∀ w, Calls Try.prog 29 #[sc a0 a1 a2 a3 a4, spi a5 a6 a7, .int .i64 a8] w fun e w' => e = .returned (.tuple #[.int .i64 R0, .int .i64 R1]) ∧ Gr w w') :
    Calls Try.prog 9 #[sc a0 a1 a2 a3 a4, spi a5 a6 a7, .int .i64 a8] w fun e w' => e = .returned (.bool true) ∧ Gr w w' := by
  have Hs := hid hs; clear hs
  have Hi := hid hi; clear hi
  go_enter Try.func9, Try.ntmps9
  go_wp2_with fail
  refine wp_reg0 10 (by kernel_rfl) (by kernel_rfl) ?_
  apply Exists.intro
  refine ⟨fun wb hb => ?_, ?_⟩
  · obtain ⟨x0, x1, _, _⟩ := alloc2 (Gr.refl _)
    obtain ⟨_, _, _, _, _⟩ := hb.at5 x0
    obtain ⟨_, _, _⟩ := hb.at3 x1
    clear x0 x1
    simp only [headOps, List.contains, List.elem, reduceIte, Bool.false_eq_true]
    repeat (first | go_big_quiet_step (first | (go_at_call 14; exact Calls.of_gr (toScrew_any _ _ _ _ _ _)) | (go_at_call 17; exact Calls.of_gr (toSpindle_any _ _ _ _)) | (go_at_call 28; exact Calls.of_gr (Hs.out _))) | quiet_step (fail))
    exact wpQuiet_nil rfl
  intro w1 hg1
  obtain ⟨x0, x1, _, G1⟩ := alloc2 hg1
  have X0 := hid x0
  have X1 := hid x1
  have G1 := hid G1
  clear hg1 x0 x1
  go_wp2_with fail
  refine wp_reg0 10 (by kernel_rfl) (by kernel_rfl) ?_
  apply Exists.intro
  refine ⟨fun wb hb => ?_, ?_⟩
  · obtain ⟨_, _, _, _, _⟩ := hb.at5 X0.out
    obtain ⟨_, _, _⟩ := hb.at3 X1.out
    simp only [headOps, List.contains, List.elem, reduceIte, Bool.false_eq_true]
    repeat (first | go_big_quiet_step (first | (go_at_call 14; exact Calls.of_gr (toScrew_any _ _ _ _ _ _)) | (go_at_call 17; exact Calls.of_gr (toSpindle_any _ _ _ _)) | (go_at_call 29; exact Calls.of_gr (Hi.out _))) | quiet_step (fail))
    exact wpQuiet_nil rfl
  intro w2 hg2
  have G2 := hid (G1.out.trans hg2)
  clear hg2
  go_wp2
  go_ret
  exact ⟨rfl, G2.out⟩

open Go.ChangeShapes Go.WideShapes Go.ChangeAt Go.Joins
set_option maxRecDepth 100000 in
theorem liftedPlayFound (os : Os) (started : os.Started) (H : Type) (enc : TypeId × Value → H) :
    ReturnsInHanded {} Try.checked os 9 .any (Rows.fnExactPlayFoundSpec.pre6 enc Try.prog Try.f9 Rows.fnExactPlayFoundRow.domain false) (Rows.fnExactPlayFoundSpec.post enc Try.prog Try.f9 false true false false) := by
  refine returnsInHanded_of_change (C := Try.checked) ownNone started (by kernel_rfl) Try.func9
    (ChangeSpec.witness6 (enc := enc) (C := Try.checked) false ⟨#[], #[sc 0 0 0 0 0, spi 0 0 0, .int .i64 0], []⟩ 8 (by kernel_rfl) (by kernel_rfl) (by kernel_rfl) (by kernel_rfl)) ?_
  intro W base args ds gs before hval0 hW _ _
  have hval : ∀ (j : Nat) t v, Try.f9.params[j]? = some t → args[j]? = some v → Value.okWide Try.prog W .any base t v := hval0
  have hW' := hW
  obtain ⟨p, q, hA0, hV, rfl, _, _⟩ := hW
  have hA : DataW.TrodAll enc Try.prog W 0 (fun _ => true) true Try.f9.params.toList args.toList ds p := hA0
  rw [Try.params9] at hA hval
  obtain ⟨v0, v1, v2, d0, d1, d2, p0, p1, p2, rfl, rfl, rfl, h0, h1, h2⟩ := trodAll_three hA
  obtain ⟨rfl, rfl⟩ := trodVars_none hV
  obtain ⟨a0, a1, a2, a3, a4, rfl, rfl, rfl, wa0, wa1, wa2, wa3, wa4⟩ := open_screw (hval 0 31 v0 rfl rfl) h0
  obtain ⟨a5, a6, a7, rfl, rfl, rfl, wa5, wa6, wa7⟩ := open_spindle (hval 1 39 v1 rfl rfl) h1
  obtain ⟨a8, rfl, rfl, rfl, wa8⟩ := open_i64 (hval 2 2 v2 rfl rfl) h2
  clear hA0 hval0 hval hA hV
  simp only [List.append_nil] at hW'
  obtain ⟨R0, R1, hs, hi⟩ := bothPlayFound a0 a1 a2 a3 a4 a5 a6 a7 a8
  refine (lawPlayFound _ _ _ _ _ _ _ _ _ _ _ W hs hi).mono fun e W' ⟨he, hg⟩ => ?_
  subst he
  exact ⟨_, rfl, _, _, _, [], [], [], hW', trodAll_mk1 (shut_bool Try.underlying4 _), trodAll_mk3 (shut_screw wa0 wa1 wa2 wa3 wa4) (shut_spindle wa5 wa6 wa7) (shut_i64 wa8), rfl, hg.below.frame _, fun h => by cases h⟩

set_option maxHeartbeats 2000000 in
theorem closedPlayFound : joinedFacts Try.pinned.checked.prog 9 Try.f9 Rows.fnExactPlayFoundSpec Rows.fnExactPlayFoundRow = true := by
  unfold joinedFacts
  refine Bool.and_eq_true_iff.2 ⟨?_, by as_aux_lemma => kernel_rfl⟩
  refine Bool.and_eq_true_iff.2 ⟨?_, by as_aux_lemma => kernel_rfl⟩
  refine Bool.and_eq_true_iff.2 ⟨?_, by as_aux_lemma => kernel_rfl⟩
  refine Bool.and_eq_true_iff.2 ⟨?_, by as_aux_lemma => kernel_rfl⟩
  refine Bool.and_eq_true_iff.2 ⟨?_, by rw [fact_make]; rfl⟩
  refine Bool.and_eq_true_iff.2 ⟨?_, by rw [fact_final]; rfl⟩
  refine Bool.and_eq_true_iff.2 ⟨?_, fact_enters⟩
  refine Bool.and_eq_true_iff.2 ⟨?_, by as_aux_lemma => kernel_rfl⟩
  refine Bool.and_eq_true_iff.2 ⟨?_, by as_aux_lemma => kernel_rfl⟩
  refine Bool.and_eq_true_iff.2 ⟨?_, by as_aux_lemma => kernel_rfl⟩
  refine Bool.and_eq_true_iff.2 ⟨?_, by as_aux_lemma => kernel_rfl⟩
  refine Bool.and_eq_true_iff.2 ⟨?_, by as_aux_lemma => kernel_rfl⟩
  refine Bool.and_eq_true_iff.2 ⟨?_, by as_aux_lemma => kernel_rfl⟩
  refine Bool.and_eq_true_iff.2 ⟨?_, by as_aux_lemma => kernel_rfl⟩
  refine Bool.and_eq_true_iff.2 ⟨?_, by as_aux_lemma => kernel_rfl⟩
  refine Bool.and_eq_true_iff.2 ⟨?_, by as_aux_lemma => kernel_rfl⟩
  refine Bool.and_eq_true_iff.2 ⟨?_, by as_aux_lemma => kernel_rfl⟩
  refine Bool.and_eq_true_iff.2 ⟨?_, by as_aux_lemma => kernel_rfl⟩
  refine Bool.and_eq_true_iff.2 ⟨?_, by as_aux_lemma => kernel_rfl⟩
  refine Bool.and_eq_true_iff.2 ⟨?_, by as_aux_lemma => kernel_rfl⟩
  refine Bool.and_eq_true_iff.2 ⟨?_, by as_aux_lemma => kernel_rfl⟩
  refine Bool.and_eq_true_iff.2 ⟨?_, by as_aux_lemma => kernel_rfl⟩
  refine Bool.and_eq_true_iff.2 ⟨?_, by as_aux_lemma => kernel_rfl⟩
  refine Bool.and_eq_true_iff.2 ⟨?_, by as_aux_lemma => kernel_rfl⟩
  refine Bool.and_eq_true_iff.2 ⟨?_, by as_aux_lemma => kernel_rfl⟩
  refine Bool.and_eq_true_iff.2 ⟨?_, by as_aux_lemma => kernel_rfl⟩
  refine Bool.and_eq_true_iff.2 ⟨?_, by as_aux_lemma => kernel_rfl⟩
  refine Bool.and_eq_true_iff.2 ⟨?_, by as_aux_lemma => kernel_rfl⟩
  refine Bool.and_eq_true_iff.2 ⟨?_, by as_aux_lemma => kernel_rfl⟩
  refine Bool.and_eq_true_iff.2 ⟨?_, by as_aux_lemma => kernel_rfl⟩
  as_aux_lemma => kernel_rfl
theorem playFound_holds : Rows.FnExactPlayFoundSaid :=
  OpenClaim.holds_of_wide 9 Try.f9 rfl rfl rfl rfl rfl rfl rfl ⟨rfl, rfl, rfl, rfl, rfl⟩ rfl rfl rfl rfl rfl (by as_aux_lemma => kernel_rfl) Try.func9 closedPlayFound
    (of_decide_eq_true (by as_aux_lemma => kernel_rfl)) (by unfold Func.isWrapper; rw [if_neg (by decide +kernel)]; exact ⟨rfl, rfl⟩)
    (fun os started H enc _ => liftedPlayFound os started H enc)
#print axioms playFound_holds
end Go.Proofs.Ytjcebojmfoppaaa
