/- The law FnExactFloorOf of the laws package returns true for every argument, valid or not; the argument reads behind the call as before it. No condition. -/
import Derived.Test.YtnijgondbpnpfaaRows
import Derived.Test.YtnijgondbpnpfaaJ
import Derived.Test.YtnijgondbpnpfaaFactsM
import Derived.ProofKit
import Derived.Lib.SmallJoins
namespace Go.Proofs.Ytnijgondbpnpfaa
open Go.RowKit Go.Sort

set_option maxHeartbeats 1000000 in
theorem lawFloorOf (a b : Int) (P C : Int) (w : World) (hs : ∀ w, Calls Try.prog 45 #[fr a b] w fun e w' => e = .returned (.tuple #[.int .i64 P, .int .i64 C]) ∧ Gr w w')
     (hi : ∀ w, Calls Try.prog 46 #[fr a b] w fun e w' => e = .returned (.tuple #[.int .i64 P, .int .i64 C]) ∧ Gr w w') :
    Calls Try.prog 12 #[fr a b] w fun e w' => e = .returned (.bool true) ∧ Gr w w' := by
  have Hs := hid hs; clear hs
  have Hi := hid hi; clear hi
  go_enter Try.func12, Try.ntmps12
  go_wp2_with fail
  refine (toFrac_any _ _ _).mono ?_
  rintro e w1 ⟨rfl, hg1⟩
  obtain ⟨x0, _, G1⟩ := alloc1 hg1
  have X0 := hid x0; have G1 := hid G1
  clear hg1 x0
  go_wp2_with fail
  refine (Hs.out _).mono ?_
  rintro e w2 ⟨rfl, hg2⟩
  have x0 := hg2.keep X0.out
  obtain ⟨_, _⟩ := cells2 x0
  have Y0 := hid x0; have G2 := hid (G1.out.trans hg2)
  clear hg2 x0
  go_wp2_with fail
  refine (toFrac_any _ _ _).mono ?_
  rintro e w3 ⟨rfl, hg3⟩
  have G3 := hid (G2.out.trans hg3)
  clear hg3
  go_wp2_with fail
  refine (Hi.out _).mono ?_
  rintro e w4 ⟨rfl, hg4⟩
  have G4 := hid (G3.out.trans hg4)
  clear hg4
  go_wp2_with fail
  go_ret
  exact ⟨rfl, G4.out⟩

open Go.ChangeShapes Go.WideShapes Go.ChangeAt Go.Joins

theorem ownFloorOf : ownKnob Try.prog.godebug = none := by kernel_rfl
theorem cellsFloorOf : Try.prog.cellsOf 23 = 2 := by kernel_rfl

set_option maxRecDepth 100000 in
theorem liftedFloorOf (os : Os) (started : os.Started) (H : Type) (enc : TypeId × Value → H) :
    ReturnsInHanded {} Try.checked os 12 .any (Rows.fnExactFloorOfSpec.pre6 enc Try.prog Try.f12 Rows.fnExactFloorOfRow.domain false) (Rows.fnExactFloorOfSpec.post enc Try.prog Try.f12 false true false false) := by
  refine returnsInHanded_of_change (C := Try.checked) ownFloorOf started (by kernel_rfl) Try.func12
    (ChangeSpec.witness6 (enc := enc) (C := Try.checked) false ⟨#[], #[fr 0 0], []⟩ 8 (by kernel_rfl) (by kernel_rfl) (by kernel_rfl) (by kernel_rfl)) ?_
  intro W base args ds gs before hval0 hW _ _
  have hval : ∀ (j : Nat) t v, Try.f12.params[j]? = some t → args[j]? = some v → Value.okWide Try.prog W .any base t v := hval0
  have hW' := hW
  obtain ⟨p, q, hA0, hV, rfl, _, _⟩ := hW
  have hA : DataW.TrodAll enc Try.prog W 0 (fun _ => true) true Try.f12.params.toList args.toList ds p := hA0
  rw [Try.params12] at hA hval
  obtain ⟨v0, d0, rfl, rfl, h0⟩ := trodAll_one hA
  obtain ⟨rfl, rfl⟩ := trodVars_none hV
  obtain ⟨c0, c1, y0, y1, m0, rfl, rfl, rfl, hy0, hy1⟩ := open_agg2 Try.underlying23 (by kernel_rfl) cellsFloorOf (hval 0 23 v0 rfl rfl) h0
  obtain ⟨a, e0, rfl, wa⟩ := DataW.trod_int Try.underlying2 hy0
  obtain ⟨b, e1, rfl, wb⟩ := DataW.trod_int Try.underlying2 hy1
  simp at e0 e1
  subst e0 e1
  clear hA0 hval0
  simp only [List.append_nil] at hW'
  have reads : ∀ (x y : Int) (_ : (Lit.int .i64 x).wf = true) (_ : (Lit.int .i64 y).wf = true) (W' : World) (sp : Nat → Bool), DataW.Trod enc Try.prog W' 0 sp true 23 (fr x y) (.agg [.lit (.int .i64 x), .lit (.int .i64 y)]) [] := fun x y wx wy W' sp =>
    shut_agg2 (y0 := (.lit (.int .i64 x), [])) (y1 := (.lit (.int .i64 y), [])) Try.underlying23 (by kernel_rfl) cellsFloorOf ⟨1, by simp [DataW.trod, Try.underlying2, wx]⟩ ⟨1, by simp [DataW.trod, Try.underlying2, wy]⟩
  have done : ∀ (e : Ending) (W' : World), e = .returned (.bool true) ∧ Gr W W' → ∃ v, e = .returned v ∧ Rows.fnExactFloorOfSpec.post enc Try.prog Try.f12 false true false false W #[fr a b] v W' := fun e W' ⟨he, hg⟩ => by
    subst he
    exact ⟨_, rfl, _, _, _, [], [], [], hW', trodAll_mk1 (shut_bool Try.underlying4 _), trodAll_mk1 (reads a b wa wb _ _), rfl, hg.below.frame _, fun h => by cases h⟩
  cases hk : okB a b with
  | true => exact (lawFloorOf a b _ _ W (fun w => sFloor_yes a b w hk) (fun w => iFloor_yes a b w hk)).mono done
  | false => exact (lawFloorOf a b _ _ W (fun w => sFloor_no a b w hk) (fun w => iFloor_no a b w hk)).mono done

set_option maxHeartbeats 2000000 in
theorem closedFloorOf : joinedFacts Try.pinned.checked.prog 12 Try.f12 Rows.fnExactFloorOfSpec Rows.fnExactFloorOfRow = true := by
  unfold joinedFacts
  refine Bool.and_eq_true_iff.2 ⟨?_, by as_aux_lemma => kernel_rfl⟩
  refine Bool.and_eq_true_iff.2 ⟨?_, by as_aux_lemma => kernel_rfl⟩
  refine Bool.and_eq_true_iff.2 ⟨?_, by as_aux_lemma => kernel_rfl⟩
  refine Bool.and_eq_true_iff.2 ⟨?_, by as_aux_lemma => kernel_rfl⟩
  refine Bool.and_eq_true_iff.2 ⟨?_, by rw [fact_make]; rfl⟩
  refine Bool.and_eq_true_iff.2 ⟨?_, by rw [fact_final]; rfl⟩
  refine Bool.and_eq_true_iff.2 ⟨?_, fact_enters⟩
  refine Bool.and_eq_true_iff.2 ⟨?_, by as_aux_lemma => kernel_rfl⟩
  refine Bool.and_eq_true_iff.2 ⟨?_, by as_aux_lemma => kernel_rfl⟩
  refine Bool.and_eq_true_iff.2 ⟨?_, by as_aux_lemma => kernel_rfl⟩
  refine Bool.and_eq_true_iff.2 ⟨?_, by as_aux_lemma => kernel_rfl⟩
  refine Bool.and_eq_true_iff.2 ⟨?_, by as_aux_lemma => kernel_rfl⟩
  refine Bool.and_eq_true_iff.2 ⟨?_, by as_aux_lemma => kernel_rfl⟩
  refine Bool.and_eq_true_iff.2 ⟨?_, by as_aux_lemma => kernel_rfl⟩
  refine Bool.and_eq_true_iff.2 ⟨?_, by as_aux_lemma => kernel_rfl⟩
  refine Bool.and_eq_true_iff.2 ⟨?_, by as_aux_lemma => kernel_rfl⟩
  refine Bool.and_eq_true_iff.2 ⟨?_, by as_aux_lemma => kernel_rfl⟩
  refine Bool.and_eq_true_iff.2 ⟨?_, by as_aux_lemma => kernel_rfl⟩
  refine Bool.and_eq_true_iff.2 ⟨?_, by as_aux_lemma => kernel_rfl⟩
  refine Bool.and_eq_true_iff.2 ⟨?_, by as_aux_lemma => kernel_rfl⟩
  refine Bool.and_eq_true_iff.2 ⟨?_, by as_aux_lemma => kernel_rfl⟩
  refine Bool.and_eq_true_iff.2 ⟨?_, by as_aux_lemma => kernel_rfl⟩
  refine Bool.and_eq_true_iff.2 ⟨?_, by as_aux_lemma => kernel_rfl⟩
  refine Bool.and_eq_true_iff.2 ⟨?_, by as_aux_lemma => kernel_rfl⟩
  refine Bool.and_eq_true_iff.2 ⟨?_, by as_aux_lemma => kernel_rfl⟩
  refine Bool.and_eq_true_iff.2 ⟨?_, by as_aux_lemma => kernel_rfl⟩
  refine Bool.and_eq_true_iff.2 ⟨?_, by as_aux_lemma => kernel_rfl⟩
  refine Bool.and_eq_true_iff.2 ⟨?_, by as_aux_lemma => kernel_rfl⟩
  refine Bool.and_eq_true_iff.2 ⟨?_, by as_aux_lemma => kernel_rfl⟩
  refine Bool.and_eq_true_iff.2 ⟨?_, by as_aux_lemma => kernel_rfl⟩
  as_aux_lemma => kernel_rfl
theorem floorOf_holds : Rows.FnExactFloorOfSaid :=
  OpenClaim.holds_of_wide 12 Try.f12 rfl rfl rfl rfl rfl rfl rfl ⟨rfl, rfl, rfl, rfl, rfl⟩ rfl rfl rfl rfl rfl (by as_aux_lemma => kernel_rfl) Try.func12 closedFloorOf
    (of_decide_eq_true (by as_aux_lemma => kernel_rfl)) (by unfold Func.isWrapper; rw [if_neg (by decide +kernel)]; exact ⟨rfl, rfl⟩)
    (fun os started H enc _ => liftedFloorOf os started H enc)
#print axioms floorOf_holds
end Go.Proofs.Ytnijgondbpnpfaa
