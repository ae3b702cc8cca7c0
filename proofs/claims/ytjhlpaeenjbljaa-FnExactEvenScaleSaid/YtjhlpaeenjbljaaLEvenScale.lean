/- The law FnExactEvenScale of the laws package returns true for every unit and every number of marks; they read behind the call as before it. No condition. -/
import Derived.Test.YtjhlpaeenjbljaaRows
import Derived.Test.YtjhlpaeenjbljaaEy
import Derived.Test.YtjhlpaeenjbljaaMk
import Derived.Test.YtjhlpaeenjbljaaRd
import Derived.Test.YtjhlpaeenjbljaaFacts
import Derived.ProofKit
import Derived.Carry
import Derived.Lib.SmallJoins
namespace Go.Proofs.Ytjhlpaeenjbljaa
open Go.RowKit Go.Sort

set_option maxRecDepth 20000 in
set_option maxHeartbeats 4000000 in
theorem lawEvenScale (a b t0 u v : Int) (ys : List (Int × Int)) (C : Int) (w : World) (hys : ys.length ≤ 1048576)
    (hs : ∀ w : World, Calls Try.prog 12 #[fr a b, .int .i64 t0] w fun e w' => GivesS w w' e u v ys C)
    (hi : ∀ w : World, Calls Try.prog 14 #[fr a b, .int .i64 t0] w fun e w' => GivesS w w' e u v ys C) :
    Calls Try.prog 3 #[fr a b, .int .i64 t0] w fun x w' => x = .returned (.bool true) ∧ Gr w w' := by
  have HS := hid hs; have HI := hid hi
  clear hs hi
  go_enter Try.func3, Try.ntmps3
  go_wp2_with fail
  refine (toFrac_any _ _ _).mono ?_
  rintro e w1 ⟨rfl, hg1⟩
  obtain ⟨x1_0, hz1, g1⟩ := alloc1 hg1
  obtain ⟨_, _⟩ := cells2 x1_0
  have _ := fz x1_0
  have _ := ltb x1_0
  have X1_0 := hid x1_0; clear x1_0
  have G1 := hid (g1)
  clear hg1 g1
  have B1 := hid X1_0.out
  go_wp2_with fail
  refine (HS.out _).mono ?_
  rintro x w3 ⟨A3, c3, rfl, o3, hg3⟩
  have L3 := hid (own_lt o3); have O3 := hid o3; have B3 := hid (hg3.keep B1.out); have G3 := hid (G1.out.trans hg3); clear o3 hg3 B1
  obtain ⟨_, _⟩ := cells2 B3.out
  have _ := ltb B3.out
  go_wp2_with fail
  refine (toFrac_any _ _ _).mono ?_
  rintro x w4 ⟨rfl, hg4⟩
  obtain ⟨v4, _, g4⟩ := alloc1 hg4
  have O4 := hid (own_gr O3.out g4); have V4 := hid v4; have B4 := hid (g4.keep B3.out); have G4 := hid (G3.out.trans g4); have S4 := hid (ltb v4)
  clear hg4 v4 g4 O3 B3
  go_wp2_with fail
  refine (HI.out _).mono ?_
  rintro x w5 ⟨A5, c5, rfl, o5, hg5⟩
  have LG := hid (own_lt o5); have OG5 := hid o5; have O5 := hid (own_gr O4.out hg5); have V5 := hid (hg5.keep V4.out); have B5 := hid (hg5.keep B4.out); have G5 := hid (G4.out.trans hg5)
  have SZ5 := hid hg5.size
  clear o5 hg5 V4 B4 O4
  obtain ⟨_, _, _⟩ := cells3 V5.out
  have _ := ltb V5.out
  go_wp2_with fail
  refine (eqSc_any _ _ _ _ _ _ ys _ (hid (RdF.of_ownF (own_gr OG5.out ((Gr.refl _).al _)))) (hid (RdF.of_ownF (own_gr O5.out ((Gr.refl _).al _)))) hys).mono ?_
  rintro e w6 ⟨rfl, hg6⟩
  obtain ⟨p6, _, g6⟩ := alloc1 hg6
  have OG6 := hid (own_gr OG5.out g6); have O6 := hid (own_gr O5.out g6); have V6 := hid (g6.keep V5.out); have P6 := hid p6; have B6 := hid (g6.keep B5.out); have G6 := hid (G5.out.trans g6)
  clear hg6 p6 g6 OG5 O5 V5 B5
  obtain ⟨_, _, _⟩ := cells3 P6.out
  have _ := ltb P6.out
  go_wp2_with fail
  refine (markOwnSc2 _ _ _ _ _ _ _ 1 _ OG6 hys (by omega) (by omega)).mono ?_
  rintro e w7 ⟨rfl, ⟨gg, hgg, on7⟩, m7, ot7⟩
  have M7 := hid m7
  have R7 := hid ((RdF.of_ownF O6.out).only on7 (fun ad he => by have := (L3.out ad he).2; have := S4.out; omega))
  have V7 := hid (ot7 _ _ _ (by decide) V6.out)
  have P7 := hid (ot7 _ _ _ (by decide) P6.out)
  have B7 := hid (on7.1 _ _ (by have := ltb B6.out; have := hgg; have := S4.out; have := G3.out.size; have := ltb X1_0.out; omega) B6.out)
  have G7 := hid (on7.2 w G6.out (by have := G4.out.size; omega))
  clear on7 m7 ot7 OG6 V6 P6 B6
  obtain ⟨_, _, _⟩ := cells3 P7.out
  have _ := ltb P7.out
  go_wp2_with fail
  refine (heldSc_any _ _ _ _ _ _ _ M7 hys (by omega) (by omega)).mono ?_
  rintro e w8 ⟨rfl, g8⟩
  have M8 := hid (M7.out.keep g8); have R8 := hid (R7.out.keep g8); have V8 := hid (g8.keep V7.out); have P8 := hid (g8.keep P7.out); have B8 := hid (g8.keep B7.out); have G8 := hid (G7.out.trans g8)
  clear g8 M7 R7 V7 P7 B7
  obtain ⟨_, _⟩ := cells2 B8.out
  have _ := ltb B8.out
  go_wp2_with fail
  refine (toFrac_any _ _ _).mono ?_
  rintro x w9 ⟨rfl, g9⟩
  have M9 := hid (M8.out.keep g9); have R9 := hid (R8.out.keep g9); have V9 := hid (g9.keep V8.out); have P9 := hid (g9.keep P8.out); have G9 := hid (G8.out.trans g9)
  clear g9 M8 R8 V8 P8 B8
  go_wp2_with fail
  refine (HI.out _).mono ?_
  rintro x w10 ⟨A10, c10, rfl, o10, g10⟩
  have RH := hid (RdF.of_ownF o10); have M10 := hid (M9.out.keep g10); have R10 := hid (R9.out.keep g10); have V10 := hid (g10.keep V9.out); have P10 := hid (g10.keep P9.out); have G10 := hid (G9.out.trans g10)
  clear o10 g10 M9 R9 V9 P9
  obtain ⟨_, _, _⟩ := cells3 V10.out
  have _ := ltb V10.out
  go_wp2_with fail
  refine (eqSc_any _ _ _ _ _ _ ys _ (hid (RH.out.keep ((Gr.refl _).al _))) (hid (R10.out.keep ((Gr.refl _).al _))) hys).mono ?_
  rintro e w11 ⟨rfl, g11'⟩
  obtain ⟨_, _, g11⟩ := alloc1 g11'
  have M11 := hid (M10.out.keep g11); have P11 := hid (g11.keep P10.out); have G11 := hid (G10.out.trans g11)
  clear g11' g11 M10 R10 RH P10 V10
  obtain ⟨_, _, _⟩ := cells3 P11.out
  have _ := ltb P11.out
  go_wp2_with fail
  refine (heldSc_any _ _ _ _ _ _ _ M11 hys (by omega) (by omega)).mono ?_
  rintro e w12 ⟨rfl, g12⟩
  have G12 := hid (G11.out.trans g12); clear g12 M11 P11
  go_wp2_with fail
  go_ret
  exact ⟨rfl, G12.out⟩

open Go.ChangeShapes Go.WideShapes Go.ChangeAt Go.Joins
set_option maxRecDepth 100000 in
theorem liftedEvenScale (os : Os) (started : os.Started) (H : Type) (enc : TypeId × Value → H) :
    ReturnsInHanded {} Try.checked os 3 .any (Rows.fnExactEvenScaleSpec.pre6 enc Try.prog Try.f3 Rows.fnExactEvenScaleRow.domain false) (Rows.fnExactEvenScaleSpec.post enc Try.prog Try.f3 false true false false) := by
  refine returnsInHanded_of_change (C := Try.checked) ownNone started (by kernel_rfl) Try.func3
    (ChangeSpec.witness6 (enc := enc) (C := Try.checked) false ⟨#[], #[.agg #[.int .i64 0, .int .i64 0], .int .i64 0], []⟩ 8 (by kernel_rfl) (by kernel_rfl) (by kernel_rfl) (by kernel_rfl)) ?_
  intro W base args ds gs before hval0 hW _ _
  have hval : ∀ (j : Nat) t v, Try.f3.params[j]? = some t → args[j]? = some v → Value.okWide Try.prog W .any base t v := hval0
  have hW' := hW
  obtain ⟨p, q, hA0, hV, rfl, _, _⟩ := hW
  have hA : DataW.TrodAll enc Try.prog W 0 (fun _ => true) true Try.f3.params.toList args.toList ds p := hA0
  rw [Try.params3] at hA hval
  obtain ⟨u0, u1, d0, d1, p0, p1, rfl, rfl, rfl, h0, h1⟩ := trodAll_two hA
  obtain ⟨rfl, rfl⟩ := trodVars_none hV
  obtain ⟨a, b, rfl, rfl, rfl, wa, wb⟩ := open_frac (hval 0 23 u0 rfl rfl) h0
  obtain ⟨t0, rfl, rfl, rfl, wt⟩ := open_i64 (hval 1 2 u1 rfl rfl) h1
  clear hA0 hval0
  simp only [List.append_nil] at hW'
  obtain ⟨u, v, ys, C, hys, hs, hi⟩ := bothEvenScale a b t0
  refine (lawEvenScale a b t0 u v ys C W hys hs hi).mono fun e W' ⟨he, hg⟩ => ?_
  subst he
  exact ⟨_, rfl, _, _, _, [], [], [], hW', trodAll_mk1 (shut_bool Try.underlying4 _), trodAll_mk2 (shut_frac wa wb) (shut_i64 wt), rfl, hg.below.frame _, fun h => by cases h⟩

set_option maxHeartbeats 2000000 in
theorem closedEvenScale : joinedFacts Try.pinned.checked.prog 3 Try.f3 Rows.fnExactEvenScaleSpec Rows.fnExactEvenScaleRow = true := by
  unfold joinedFacts
  refine Bool.and_eq_true_iff.2 ⟨?_, by as_aux_lemma => kernel_rfl⟩
  refine Bool.and_eq_true_iff.2 ⟨?_, by as_aux_lemma => kernel_rfl⟩
  refine Bool.and_eq_true_iff.2 ⟨?_, by as_aux_lemma => kernel_rfl⟩
  refine Bool.and_eq_true_iff.2 ⟨?_, by as_aux_lemma => kernel_rfl⟩
  refine Bool.and_eq_true_iff.2 ⟨?_, by rw [fact_make]; rfl⟩
  refine Bool.and_eq_true_iff.2 ⟨?_, by rw [fact_final]; rfl⟩
  refine Bool.and_eq_true_iff.2 ⟨?_, fact_enters⟩
  refine Bool.and_eq_true_iff.2 ⟨?_, by as_aux_lemma => kernel_rfl⟩
  refine Bool.and_eq_true_iff.2 ⟨?_, by as_aux_lemma => kernel_rfl⟩
  refine Bool.and_eq_true_iff.2 ⟨?_, by as_aux_lemma => kernel_rfl⟩
  refine Bool.and_eq_true_iff.2 ⟨?_, by as_aux_lemma => kernel_rfl⟩
  refine Bool.and_eq_true_iff.2 ⟨?_, by as_aux_lemma => kernel_rfl⟩
  refine Bool.and_eq_true_iff.2 ⟨?_, by as_aux_lemma => kernel_rfl⟩
  refine Bool.and_eq_true_iff.2 ⟨?_, by as_aux_lemma => kernel_rfl⟩
  refine Bool.and_eq_true_iff.2 ⟨?_, by as_aux_lemma => kernel_rfl⟩
  refine Bool.and_eq_true_iff.2 ⟨?_, by as_aux_lemma => kernel_rfl⟩
  refine Bool.and_eq_true_iff.2 ⟨?_, by as_aux_lemma => kernel_rfl⟩
  refine Bool.and_eq_true_iff.2 ⟨?_, by as_aux_lemma => kernel_rfl⟩
  refine Bool.and_eq_true_iff.2 ⟨?_, by as_aux_lemma => kernel_rfl⟩
  refine Bool.and_eq_true_iff.2 ⟨?_, by as_aux_lemma => kernel_rfl⟩
  refine Bool.and_eq_true_iff.2 ⟨?_, by as_aux_lemma => kernel_rfl⟩
  refine Bool.and_eq_true_iff.2 ⟨?_, by as_aux_lemma => kernel_rfl⟩
  refine Bool.and_eq_true_iff.2 ⟨?_, by as_aux_lemma => kernel_rfl⟩
  refine Bool.and_eq_true_iff.2 ⟨?_, by as_aux_lemma => kernel_rfl⟩
  refine Bool.and_eq_true_iff.2 ⟨?_, by as_aux_lemma => kernel_rfl⟩
  refine Bool.and_eq_true_iff.2 ⟨?_, by as_aux_lemma => kernel_rfl⟩
  refine Bool.and_eq_true_iff.2 ⟨?_, by as_aux_lemma => kernel_rfl⟩
  refine Bool.and_eq_true_iff.2 ⟨?_, by as_aux_lemma => kernel_rfl⟩
  refine Bool.and_eq_true_iff.2 ⟨?_, by as_aux_lemma => kernel_rfl⟩
  refine Bool.and_eq_true_iff.2 ⟨?_, by as_aux_lemma => kernel_rfl⟩
  as_aux_lemma => kernel_rfl
theorem evenScale_holds : Rows.FnExactEvenScaleSaid :=
  OpenClaim.holds_of_wide 3 Try.f3 rfl rfl rfl rfl rfl rfl rfl ⟨rfl, rfl, rfl, rfl, rfl⟩ rfl rfl rfl rfl rfl (by as_aux_lemma => kernel_rfl) Try.func3 closedEvenScale
    (of_decide_eq_true (by as_aux_lemma => kernel_rfl)) (by unfold Func.isWrapper; rw [if_neg (by decide +kernel)]; exact ⟨rfl, rfl⟩)
    (fun os started H enc _ => liftedEvenScale os started H enc)
#print axioms evenScale_holds
end Go.Proofs.Ytjhlpaeenjbljaa
