/- The law FnExactValidSpan of the laws package returns true for all arguments, valid or not; each argument reads behind the call as before it. No condition. -/
import Derived.Test.YtenjljecnabajaaRows
import Derived.Test.YtenjljecnabajaaQ
import Derived.Test.YtenjljecnabajaaRd
import Derived.Test.YtenjljecnabajaaFactsM
import Derived.ProofKit
import Derived.Lib.SmallJoins
namespace Go.Proofs.Ytenjljecnabajaa
open Go.RowKit Go.Sort

set_option maxRecDepth 20000 in
set_option maxHeartbeats 1000000 in
theorem lawValidSpan (a0 : Int) (a1 : Int) (a2 : Int) (a3 : Int) (R0 : Bool) (w : World) (hs : ∀ w, Calls Try.prog 25 #[sp a0 a1 a2 a3] w fun e w' => e = .returned (.bool R0) ∧ Gr w w')
     (hi : ∀ w, Calls Try.prog 27 #[sp a0 a1 a2 a3] w fun e w' => e = .returned (.bool R0) ∧ Gr w w') :
    Calls Try.prog 6 #[sp a0 a1 a2 a3] w fun e w' => e = .returned (.bool true) ∧ Gr w w' := by
  have Hs := hid hs; clear hs
  have Hi := hid hi; clear hi
  go_enter Try.func6, Try.ntmps6
  go_wp2_with fail
  refine (toSpan_any _ _ _ _ _).mono ?_
  rintro e w1 ⟨rfl, hg1⟩
  obtain ⟨x0, _, g1⟩ := alloc1 hg1
  have G1 := hid g1
  clear hg1 g1
  obtain ⟨_, _, _, _⟩ := cells4 x0
  have Hx0 := hid x0; clear x0
  go_wp2_with fail
  refine (Hs.out _).mono ?_
  rintro e w2 ⟨rfl, hg2⟩
  have x2_0 := hg2.keep Hx0.out
  have G2 := hid (G1.out.trans hg2)
  clear hg2
  obtain ⟨_, _, _, _⟩ := cells4 x2_0
  have Hx2_0 := hid x2_0; clear x2_0
  go_wp2_with fail
  refine (toSpan_any _ _ _ _ _).mono ?_
  rintro e w3 ⟨rfl, hg3⟩
  have x3_0 := hg3.keep Hx2_0.out
  have G3 := hid (G2.out.trans hg3)
  clear hg3
  obtain ⟨_, _, _, _⟩ := cells4 x3_0
  have Hx3_0 := hid x3_0; clear x3_0
  go_wp2_with fail
  refine (Hi.out _).mono ?_
  rintro e w4 ⟨rfl, hg4⟩
  have x4_0 := hg4.keep Hx3_0.out
  have G4 := hid (G3.out.trans hg4)
  clear hg4
  obtain ⟨_, _, _, _⟩ := cells4 x4_0
  have Hx4_0 := hid x4_0; clear x4_0
  go_wp2_with fail
  go_ret
  exact ⟨rfl, G4.out⟩

open Go.ChangeShapes Go.WideShapes Go.ChangeAt Go.Joins
set_option maxRecDepth 100000 in
theorem liftedValidSpan (os : Os) (started : os.Started) (H : Type) (enc : TypeId × Value → H) :
    ReturnsInHanded {} Try.checked os 6 .any (Rows.fnExactValidSpanSpec.pre6 enc Try.prog Try.f6 Rows.fnExactValidSpanRow.domain false) (Rows.fnExactValidSpanSpec.post enc Try.prog Try.f6 false true false false) := by
  refine returnsInHanded_of_change (C := Try.checked) ownNone started (by kernel_rfl) Try.func6
    (ChangeSpec.witness6 (enc := enc) (C := Try.checked) false ⟨#[], #[sp 0 0 0 0], []⟩ 8 (by kernel_rfl) (by kernel_rfl) (by kernel_rfl) (by kernel_rfl)) ?_
  intro W base args ds gs before hval0 hW _ _
  have hval : ∀ (j : Nat) t v, Try.f6.params[j]? = some t → args[j]? = some v → Value.okWide Try.prog W .any base t v := hval0
  have hW' := hW
  obtain ⟨p, q, hA0, hV, rfl, _, _⟩ := hW
  have hA : DataW.TrodAll enc Try.prog W 0 (fun _ => true) true Try.f6.params.toList args.toList ds p := hA0
  rw [Try.params6] at hA hval
  obtain ⟨v0, d0, rfl, rfl, h0⟩ := trodAll_one hA
  obtain ⟨rfl, rfl⟩ := trodVars_none hV
  obtain ⟨a0, a1, a2, a3, rfl, rfl, rfl, wa0, wa1, wa2, wa3⟩ := open_span (hval 0 35 v0 rfl rfl) h0
  clear hA0 hval0 hval hA hV
  simp only [List.append_nil] at hW'
  obtain ⟨R0, hs, hi⟩ := bothValidSpan a0 a1 a2 a3
  refine (lawValidSpan _ _ _ _ _ W hs hi).mono fun e W' ⟨he, hg⟩ => ?_
  subst he
  exact ⟨_, rfl, _, _, _, [], [], [], hW', trodAll_mk1 (shut_bool Try.underlying4 _), trodAll_mk1 (shut_span wa0 wa1 wa2 wa3), rfl, hg.below.frame _, fun h => by cases h⟩

set_option maxHeartbeats 2000000 in
theorem closedValidSpan : joinedFacts Try.pinned.checked.prog 6 Try.f6 Rows.fnExactValidSpanSpec Rows.fnExactValidSpanRow = true := by
  unfold joinedFacts
  refine Bool.and_eq_true_iff.2 ⟨?_, by as_aux_lemma => kernel_rfl⟩
  refine Bool.and_eq_true_iff.2 ⟨?_, by as_aux_lemma => kernel_rfl⟩
  refine Bool.and_eq_true_iff.2 ⟨?_, by as_aux_lemma => kernel_rfl⟩
  refine Bool.and_eq_true_iff.2 ⟨?_, by as_aux_lemma => kernel_rfl⟩
  refine Bool.and_eq_true_iff.2 ⟨?_, by rw [fact_make]; rfl⟩
  refine Bool.and_eq_true_iff.2 ⟨?_, by rw [fact_final]; rfl⟩
  refine Bool.and_eq_true_iff.2 ⟨?_, fact_enters⟩
  refine Bool.and_eq_true_iff.2 ⟨?_, by as_aux_lemma => kernel_rfl⟩
  refine Bool.and_eq_true_iff.2 ⟨?_, by as_aux_lemma => kernel_rfl⟩
  refine Bool.and_eq_true_iff.2 ⟨?_, by as_aux_lemma => kernel_rfl⟩
  refine Bool.and_eq_true_iff.2 ⟨?_, by as_aux_lemma => kernel_rfl⟩
  refine Bool.and_eq_true_iff.2 ⟨?_, by as_aux_lemma => kernel_rfl⟩
  refine Bool.and_eq_true_iff.2 ⟨?_, by as_aux_lemma => kernel_rfl⟩
  refine Bool.and_eq_true_iff.2 ⟨?_, by as_aux_lemma => kernel_rfl⟩
  refine Bool.and_eq_true_iff.2 ⟨?_, by as_aux_lemma => kernel_rfl⟩
  refine Bool.and_eq_true_iff.2 ⟨?_, by as_aux_lemma => kernel_rfl⟩
  refine Bool.and_eq_true_iff.2 ⟨?_, by as_aux_lemma => kernel_rfl⟩
  refine Bool.and_eq_true_iff.2 ⟨?_, by as_aux_lemma => kernel_rfl⟩
  refine Bool.and_eq_true_iff.2 ⟨?_, by as_aux_lemma => kernel_rfl⟩
  refine Bool.and_eq_true_iff.2 ⟨?_, by as_aux_lemma => kernel_rfl⟩
  refine Bool.and_eq_true_iff.2 ⟨?_, by as_aux_lemma => kernel_rfl⟩
  refine Bool.and_eq_true_iff.2 ⟨?_, by as_aux_lemma => kernel_rfl⟩
  refine Bool.and_eq_true_iff.2 ⟨?_, by as_aux_lemma => kernel_rfl⟩
  refine Bool.and_eq_true_iff.2 ⟨?_, by as_aux_lemma => kernel_rfl⟩
  refine Bool.and_eq_true_iff.2 ⟨?_, by as_aux_lemma => kernel_rfl⟩
  refine Bool.and_eq_true_iff.2 ⟨?_, by as_aux_lemma => kernel_rfl⟩
  refine Bool.and_eq_true_iff.2 ⟨?_, by as_aux_lemma => kernel_rfl⟩
  refine Bool.and_eq_true_iff.2 ⟨?_, by as_aux_lemma => kernel_rfl⟩
  refine Bool.and_eq_true_iff.2 ⟨?_, by as_aux_lemma => kernel_rfl⟩
  refine Bool.and_eq_true_iff.2 ⟨?_, by as_aux_lemma => kernel_rfl⟩
  as_aux_lemma => kernel_rfl
theorem validSpan_holds : Rows.FnExactValidSpanSaid :=
  OpenClaim.holds_of_wide 6 Try.f6 rfl rfl rfl rfl rfl rfl rfl ⟨rfl, rfl, rfl, rfl, rfl⟩ rfl rfl rfl rfl rfl (by as_aux_lemma => kernel_rfl) Try.func6 closedValidSpan
    (of_decide_eq_true (by as_aux_lemma => kernel_rfl)) (by unfold Func.isWrapper; rw [if_neg (by decide +kernel)]; exact ⟨rfl, rfl⟩)
    (fun os started H enc _ => liftedValidSpan os started H enc)
#print axioms validSpan_holds
end Go.Proofs.Ytenjljecnabajaa
