/- The law FnExactNearestMark of the laws package returns true for every scale and all other arguments, valid or not; they read behind the call as before it. No condition. -/
import Derived.Test.YtfkmlgndggnhaaaRows
import Derived.Test.YtfkmlgndggnhaaaSks
import Derived.Test.YtfkmlgndggnhaaaRs
import Derived.Test.YtfkmlgndggnhaaaRegG
import Derived.Test.YtfkmlgndggnhaaaFactsM
import Derived.ProofKit
import Derived.Carry
import Derived.Lib.SmallJoins
import Derived.Deep.RegionWith
import Derived.Deep.CutRange
namespace Go.Proofs.Ytfkmlgndggnhaaa
open Go.RowKit Go.Sort

set_option maxRecDepth 20000 in
set_option maxHeartbeats 4000000 in
theorem lawNearestMark (a b : Int) (A : Option Addr) (cap : Nat) (xs : List (Int × Int)) (v0 : Int) (v1 : Int) (R0 : Int) (R1 : Int) (w : World) (hr : RawF w (.slice A xs.length cap) xs) (hn : xs.length ≤ 1048576)
    (hs : ∀ (A : Option Addr) (c : Nat) (w : World), Hid (RdF w A xs) → Calls Try.prog 32 #[scl a b A xs.length c, fr v0 v1] w fun x w' => x = .returned (.tuple #[.int .i64 R0, .int .i64 R1]) ∧ Gr w w')
    (hi : ∀ (A : Option Addr) (c : Nat) (w : World), Hid (RdF w A xs) → Calls Try.prog 33 #[scl a b A xs.length c, fr v0 v1] w fun x w' => x = .returned (.tuple #[.int .i64 R0, .int .i64 R1]) ∧ Gr w w') :
    Calls Try.prog 8 #[scl a b A xs.length cap, fr v0 v1] w fun x w' => x = .returned (.bool true) ∧ Gr w w' := by
  have HS := hid hs; have HI := hid hi; have HR := hid hr
  clear hs hi hr
  go_enter Try.func8, Try.ntmps8
  go_wp2_with fail
  refine (szSc_yes _ _ _ _ _ _ _ (by omega) (by omega)).mono ?_
  rintro e w1 ⟨rfl, hg1⟩
  obtain ⟨x1_0, x1_1, hz1, g1⟩ := alloc2 hg1
  obtain ⟨_, _, _⟩ := cells3 x1_0
  have _ := fz x1_0
  have _ := ltb x1_0
  obtain ⟨_, _⟩ := cells2 x1_1
  have _ := fz x1_1
  have _ := ltb x1_1
  have X1_0 := hid x1_0; clear x1_0
  have X1_1 := hid x1_1; clear x1_1
  have G1 := hid (g1)
  clear hg1 g1
  go_wp2_with fail
  refine wp_regG1 9 1 18 [4, 5, 6, 7, 8] [1, 4, 5, 6, 7, 8] [0, 1, 2, 3] (fun g => scl a b (some ⟨g, 0, none⟩) xs.length xs.length) (.cells (flatA xs) 29) (by kernel_rfl) (by kernel_rfl) (by kernel_rfl) rfl rfl ?_
  apply Exists.intro; apply Exists.intro
  refine ⟨fun wb hb => ?_, ?_, fun g wb hb xg => ?_, fun g w2 hg2 _ _ => ?_⟩
  · obtain ⟨_, _, _⟩ := hb.at3 X1_0.out
    obtain ⟨_, _⟩ := hb.at2 X1_1.out
    simp only [headOps, List.contains, List.elem, Nat.reduceAdd, Nat.reduceBEq, reduceIte, Bool.false_eq_true, dumOp]
    repeat (first | go_big_quiet_step (first | (go_at_call 23; exact Calls.of_gr (toFrac_any _ _ _))) | quiet_step (fail))
    exact wpQuiet_nil rfl
  · intro o ho wb hb
    cases ho
    exact ⟨_, _, by kernel_rfl, toSc_any a b A cap xs wb hn (HR.out.keep (G1.out.trans hb))⟩
  · obtain ⟨_, _, _⟩ := hb.at3 X1_0.out
    obtain ⟨_, _⟩ := hb.at2 X1_1.out
    simp only [headOps, List.contains, List.elem, Nat.reduceAdd, Nat.reduceBEq, reduceIte, Bool.false_eq_true, dumOp]
    repeat (first | go_big_quiet_step (first | (go_at_call 32; exact Calls.of_gr (HS.out _ _ _ (hid ((RdF.of_block xg).keep ⟨⟨_, _⟩, rfl⟩))))) | quiet_step (fail))
    exact wpQuiet_nil rfl
  have GC := hid (G1.out.trans hg2)
  have B0 := hid (hg2.keep X1_0.out)
  have B1 := hid (hg2.keep X1_1.out)
  clear hg2
  obtain ⟨_, _, _⟩ := cells3 B0.out
  have _ := fz B0.out
  have _ := ltb B0.out
  obtain ⟨_, _⟩ := cells2 B1.out
  have _ := fz B1.out
  have _ := ltb B1.out
  go_wp2_with fail
  refine (toSc_any _ _ _ _ xs _ hn (HR.out.keep GC.out)).mono ?_
  rintro e w3 ⟨g3_, rfl, xb3, _, hg3⟩
  have x3_1 := hg3.keep B0.out
  have x3_2 := hg3.keep B1.out
  obtain ⟨_, _, _⟩ := cells3 x3_1
  have _ := fz x3_1
  have _ := ltb x3_1
  obtain ⟨_, _⟩ := cells2 x3_2
  have _ := fz x3_2
  have _ := ltb x3_2
  have _ := ltb xb3
  have X3_1 := hid x3_1; clear x3_1
  have X3_2 := hid x3_2; clear x3_2
  have Xb3 := hid xb3; clear xb3
  have G3 := hid (GC.out.trans hg3)
  clear hg3
  go_wp2_with fail
  refine wp_reg0 8 (by kernel_rfl) (by kernel_rfl) ?_
  apply Exists.intro
  refine ⟨fun wb hb => ?_, ?_⟩
  · obtain ⟨_, _, _⟩ := hb.at3 (((Gr.refl _).al _).keep X3_1.out)
    obtain ⟨_, _⟩ := hb.at2 (((Gr.refl _).al _).keep X3_2.out)
    obtain ⟨_, _, _⟩ := hb.at3 (alloc1 (Gr.refl _)).1
    simp only [headOps, List.contains, List.elem, reduceIte, Bool.false_eq_true]
    repeat (first | go_big_quiet_step (first | (go_at_call 23; exact Calls.of_gr (toFrac_any _ _ _)) | (go_at_call 33; exact Calls.of_gr (HI.out _ _ _ (hid ((RdF.of_block Xb3.out).keep (((Gr.alloc _ _).trans hb).trans ⟨⟨_, _⟩, rfl⟩)))))) | quiet_step (fail))
    exact wpQuiet_nil rfl
  intro w4 hg4
  obtain ⟨x4_0, hz4, g4⟩ := alloc1 hg4
  have x4_1 := g4.keep X3_1.out
  have x4_2 := g4.keep X3_2.out
  have x4_3 := g4.keep Xb3.out
  obtain ⟨_, _, _⟩ := cells3 x4_1
  have _ := fz x4_1
  have _ := ltb x4_1
  obtain ⟨_, _⟩ := cells2 x4_2
  have _ := fz x4_2
  have _ := ltb x4_2
  have _ := ltb x4_3
  obtain ⟨_, _, _⟩ := cells3 x4_0
  have _ := fz x4_0
  have _ := ltb x4_0
  have X4_1 := hid x4_1; clear x4_1
  have X4_2 := hid x4_2; clear x4_2
  have X4_3 := hid x4_3; clear x4_3
  have X4_0 := hid x4_0; clear x4_0
  have G4 := hid (G3.out.trans g4)
  clear hg4 g4
  go_wp2_with fail
  go_region_with (first | (go_at_call 17; refine (toSc_any _ _ _ _ xs _ hn (HR.out.keep (G4.out.trans (Gr.drew _)))).mono ?_; rintro x wb ⟨gb, rfl, xb, _, hgb⟩; have XB := hid xb; have GB := hid ((Gr.drew _).trans hgb); have X60 := hid (GB.out.keep X4_0.out); have X63 := hid (GB.out.keep X4_3.out); obtain ⟨_, _, _⟩ := cells3 X60.out; clear xb hgb) | (go_at_call 19; refine (eqSc_any _ _ _ _ _ _ xs _ (hid (RdF.of_block X63.out)) (hid (RdF.of_block XB.out)) hn).mono ?_; rintro x wd ⟨rfl, hgd⟩; have GD := hid ((G4.out.trans GB.out).trans hgd); clear hgd))
  all_goals
    go_wp2
    go_ret
    exact ⟨rfl, GD.out⟩
set_option maxRecDepth 20000 in
set_option maxHeartbeats 400000 in
theorem lawNearestMark_big (a b : Int) (A : Option Addr) (n cap : Nat) (v0 : Int) (v1 : Int) (w : World) (h : 1048576 < n) (h2 : n ≤ 9223372036854775807) :
    Calls Try.prog 8 #[scl a b A n cap, fr v0 v1] w fun e w' => e = .returned (.bool true) ∧ Gr w w' := by
  go_enter Try.func8, Try.ntmps8
  go_wp2_with fail
  refine (szSc_no _ _ _ _ _ _ _ (by omega) h2 (by omega) (by omega)).mono ?_
  rintro e w1 ⟨rfl, hg1⟩
  obtain ⟨x1_0, x1_1, hz1, g1⟩ := alloc2 hg1
  obtain ⟨_, _, _⟩ := cells3 x1_0
  have _ := fz x1_0
  have _ := ltb x1_0
  obtain ⟨_, _⟩ := cells2 x1_1
  have _ := fz x1_1
  have _ := ltb x1_1
  have X1_0 := hid x1_0; clear x1_0
  have X1_1 := hid x1_1; clear x1_1
  have G1 := hid (g1)
  clear hg1 g1
  go_wp2
  go_ret
  exact ⟨rfl, G1.out⟩

open Go.ChangeShapes Go.WideShapes Go.ChangeAt Go.Joins
theorem laidOutNearestMark : laidOutB Try.prog = true := by as_aux_lemma => kernel_rfl
set_option maxRecDepth 100000 in
theorem liftedNearestMark (os : Os) (started : os.Started) (H : Type) (enc : TypeId × Value → H) :
    ReturnsInHanded {} Try.checked os 8 .any (Rows.fnExactNearestMarkSpec.pre6 enc Try.prog Try.f8 Rows.fnExactNearestMarkRow.domain false) (Rows.fnExactNearestMarkSpec.post enc Try.prog Try.f8 false true false false) := by
  refine returnsInHanded_of_change (C := Try.checked) ownNone started (by kernel_rfl) Try.func8
    (ChangeSpec.witness6 (enc := enc) (C := Try.checked) false ⟨#[], #[.agg #[.int .i64 0, .int .i64 0, .slice none 0 0], .agg #[.int .i64 0, .int .i64 0]], []⟩ 8 (by kernel_rfl) (by kernel_rfl) (by kernel_rfl) (by kernel_rfl)) ?_
  intro W base args ds gs before hval0 hW _ _
  have hval : ∀ (j : Nat) t v, Try.f8.params[j]? = some t → args[j]? = some v → Value.okWide Try.prog W .any base t v := hval0
  have hW' := hW
  obtain ⟨p, q, hA0, hV, rfl, _, _⟩ := hW
  have hA : DataW.TrodAll enc Try.prog W 0 (fun _ => true) true Try.f8.params.toList args.toList ds p := hA0
  rw [Try.params8] at hA hval
  obtain ⟨u0, u1, d0, d1, p0, p1, rfl, rfl, rfl, h0, h1⟩ := trodAll_two hA
  obtain ⟨rfl, rfl⟩ := trodVars_none hV
  obtain ⟨v0, v1, rfl, rfl, rfl, wv0, wv1⟩ := open_frac (hval 1 23 u1 rfl rfl) h1
  clear hA0 hval0
  simp only [List.append_nil] at hW'
  have hlt : ∀ x ∈ p0, x.block < W.heap.size := fun x hx => by simpa using hW'.lt x hx
  have done : ∀ (e : Ending) (W' : World), e = .returned (.bool true) ∧ Gr W W' → ∃ v, e = .returned v ∧ Rows.fnExactNearestMarkSpec.post enc Try.prog Try.f8 false true false false W #[u0, fr v0 v1] v W' := fun e W' ⟨he, hg⟩ => by
    subst he
    exact ⟨_, rfl, _, _, _, [], p0, [], hW', trodAll_mk1 (shut_bool Try.underlying4 _), (by have hta := trodAll_mk2 (Below.trod laidOutNearestMark (by kernel_rfl) (of_decide_eq_true (by kernel_rfl)) h0 hg.below hlt) (shut_frac wv0 wv1); simp only [List.append_nil] at hta; exact hta), rfl, hg.below.frame _, fun h => by cases h⟩
  obtain ⟨a, b, A, n, cap, rfl, hmax, xs, rfl, hraw⟩ := open_scale (hval 0 26 u0 rfl rfl) h0
  by_cases hn : xs.length ≤ 1048576
  · obtain ⟨R0, R1, hs, hi⟩ := bothNearestMark a b xs v0 v1 hn
    exact (lawNearestMark a b A cap xs v0 v1 R0 R1 W hraw hn hs hi).mono done
  · exact (lawNearestMark_big a b A xs.length cap v0 v1 W (by omega) hmax).mono done

set_option maxHeartbeats 2000000 in
theorem closedNearestMark : joinedFacts Try.pinned.checked.prog 8 Try.f8 Rows.fnExactNearestMarkSpec Rows.fnExactNearestMarkRow = true := by
  unfold joinedFacts
  refine Bool.and_eq_true_iff.2 ⟨?_, by as_aux_lemma => kernel_rfl⟩
  refine Bool.and_eq_true_iff.2 ⟨?_, by as_aux_lemma => kernel_rfl⟩
  refine Bool.and_eq_true_iff.2 ⟨?_, by as_aux_lemma => kernel_rfl⟩
  refine Bool.and_eq_true_iff.2 ⟨?_, by as_aux_lemma => kernel_rfl⟩
  refine Bool.and_eq_true_iff.2 ⟨?_, by rw [fact_make]; rfl⟩
  refine Bool.and_eq_true_iff.2 ⟨?_, by rw [fact_final]; rfl⟩
  refine Bool.and_eq_true_iff.2 ⟨?_, fact_enters⟩
  refine Bool.and_eq_true_iff.2 ⟨?_, by as_aux_lemma => kernel_rfl⟩
  refine Bool.and_eq_true_iff.2 ⟨?_, by as_aux_lemma => kernel_rfl⟩
  refine Bool.and_eq_true_iff.2 ⟨?_, by as_aux_lemma => kernel_rfl⟩
  refine Bool.and_eq_true_iff.2 ⟨?_, by as_aux_lemma => kernel_rfl⟩
  refine Bool.and_eq_true_iff.2 ⟨?_, by as_aux_lemma => kernel_rfl⟩
  refine Bool.and_eq_true_iff.2 ⟨?_, by as_aux_lemma => kernel_rfl⟩
  refine Bool.and_eq_true_iff.2 ⟨?_, by as_aux_lemma => kernel_rfl⟩
  refine Bool.and_eq_true_iff.2 ⟨?_, by as_aux_lemma => kernel_rfl⟩
  refine Bool.and_eq_true_iff.2 ⟨?_, by as_aux_lemma => kernel_rfl⟩
  refine Bool.and_eq_true_iff.2 ⟨?_, by as_aux_lemma => kernel_rfl⟩
  refine Bool.and_eq_true_iff.2 ⟨?_, by as_aux_lemma => kernel_rfl⟩
  refine Bool.and_eq_true_iff.2 ⟨?_, by as_aux_lemma => kernel_rfl⟩
  refine Bool.and_eq_true_iff.2 ⟨?_, by as_aux_lemma => kernel_rfl⟩
  refine Bool.and_eq_true_iff.2 ⟨?_, by as_aux_lemma => kernel_rfl⟩
  refine Bool.and_eq_true_iff.2 ⟨?_, by as_aux_lemma => kernel_rfl⟩
  refine Bool.and_eq_true_iff.2 ⟨?_, by as_aux_lemma => kernel_rfl⟩
  refine Bool.and_eq_true_iff.2 ⟨?_, by as_aux_lemma => kernel_rfl⟩
  refine Bool.and_eq_true_iff.2 ⟨?_, by as_aux_lemma => kernel_rfl⟩
  refine Bool.and_eq_true_iff.2 ⟨?_, by as_aux_lemma => kernel_rfl⟩
  refine Bool.and_eq_true_iff.2 ⟨?_, by as_aux_lemma => kernel_rfl⟩
  refine Bool.and_eq_true_iff.2 ⟨?_, by as_aux_lemma => kernel_rfl⟩
  refine Bool.and_eq_true_iff.2 ⟨?_, by as_aux_lemma => kernel_rfl⟩
  refine Bool.and_eq_true_iff.2 ⟨?_, by as_aux_lemma => kernel_rfl⟩
  as_aux_lemma => kernel_rfl
theorem nearestMark_holds : Rows.FnExactNearestMarkSaid :=
  OpenClaim.holds_of_wide 8 Try.f8 rfl rfl rfl rfl rfl rfl rfl ⟨rfl, rfl, rfl, rfl, rfl⟩ rfl rfl rfl rfl rfl (by as_aux_lemma => kernel_rfl) Try.func8 closedNearestMark
    (of_decide_eq_true (by as_aux_lemma => kernel_rfl)) (by unfold Func.isWrapper; rw [if_neg (by decide +kernel)]; exact ⟨rfl, rfl⟩)
    (fun os started H enc _ => liftedNearestMark os started H enc)
#print axioms nearestMark_holds
end Go.Proofs.Ytfkmlgndggnhaaa
