/- The law FnExactMarkAt of the laws package returns true for every scale and all other arguments, valid or not; they read behind the call as before it. No condition. -/
import Derived.Test.YtfkmlgndggnhaaaRows
import Derived.Test.YtfkmlgndggnhaaaSkh
import Derived.Test.YtfkmlgndggnhaaaRs
import Derived.Test.YtfkmlgndggnhaaaFactsM
import Derived.ProofKit
import Derived.Carry
import Derived.Lib.SmallJoins
import Derived.Deep.RegionWith
import Derived.Deep.CutRange
namespace Go.Proofs.Ytfkmlgndggnhaaa
open Go.RowKit Go.Sort

set_option maxRecDepth 20000 in
set_option maxHeartbeats 4000000 in
theorem lawMarkAt (a b : Int) (A : Option Addr) (cap : Nat) (xs : List (Int × Int)) (v0 : Int) (R0 : Int) (R1 : Int) (R2 : Int) (w : World) (hr : RawF w (.slice A xs.length cap) xs) (hn : xs.length ≤ 1048576)
    (hs : ∀ (A : Option Addr) (c : Nat) (w : World), Hid (RdF w A xs) → Calls Try.prog 27 #[scl a b A xs.length c, .int .i64 v0] w fun x w' => x = .returned (.tuple #[fr R0 R1, .int .i64 R2]) ∧ Gr w w')
    (hi : ∀ (A : Option Addr) (c : Nat) (w : World), Hid (RdF w A xs) → Calls Try.prog 28 #[scl a b A xs.length c, .int .i64 v0] w fun x w' => x = .returned (.tuple #[fr R0 R1, .int .i64 R2]) ∧ Gr w w') :
    Calls Try.prog 6 #[scl a b A xs.length cap, .int .i64 v0] w fun x w' => x = .returned (.bool true) ∧ Gr w w' := by
  have HS := hid hs; have HI := hid hi; have HR := hid hr
  clear hs hi hr
  go_enter Try.func6, Try.ntmps6
  go_wp2_with fail
  refine (szSc_yes _ _ _ _ _ _ _ (by omega) (by omega)).mono ?_
  rintro e w1 ⟨rfl, hg1⟩
  obtain ⟨x1_0, hz1, g1⟩ := alloc1 hg1
  obtain ⟨_, _, _⟩ := cells3 x1_0
  have _ := fz x1_0
  have _ := ltb x1_0
  have X1_0 := hid x1_0; clear x1_0
  have G1 := hid (g1)
  clear hg1 g1
  go_wp2_with fail
  refine (toSc_any _ _ _ _ xs _ hn (HR.out.keep G1.out)).mono ?_
  rintro e w2 ⟨g2_, rfl, xb2, _, hg2⟩
  have x2_1 := hg2.keep X1_0.out
  obtain ⟨_, _, _⟩ := cells3 x2_1
  have _ := fz x2_1
  have _ := ltb x2_1
  have _ := ltb xb2
  have X2_1 := hid x2_1; clear x2_1
  have Xb2 := hid xb2; clear xb2
  have G2 := hid (G1.out.trans hg2)
  clear hg2
  go_wp2_with fail
  refine (HS.out _ _ _ (hid (RdF.of_block Xb2.out))).mono ?_
  rintro e w3 ⟨rfl, hg3⟩
  have x3_1 := hg3.keep X2_1.out
  have x3_2 := hg3.keep Xb2.out
  obtain ⟨_, _, _⟩ := cells3 x3_1
  have _ := fz x3_1
  have _ := ltb x3_1
  have _ := ltb x3_2
  have X3_1 := hid x3_1; clear x3_1
  have X3_2 := hid x3_2; clear x3_2
  have G3 := hid (G2.out.trans hg3)
  clear hg3
  go_wp2_with fail
  refine (toSc_any _ _ _ _ xs _ hn (HR.out.keep (G3.out.al _))).mono ?_
  rintro e w4 ⟨g4_, rfl, xb4, _, hg4⟩
  obtain ⟨x4_0, hz4, g4⟩ := alloc1 hg4
  have x4_1 := g4.keep X3_1.out
  have x4_2 := g4.keep X3_2.out
  obtain ⟨_, _, _⟩ := cells3 x4_1
  have _ := fz x4_1
  have _ := ltb x4_1
  have _ := ltb x4_2
  obtain ⟨_, _⟩ := cells2 x4_0
  have _ := fz x4_0
  have _ := ltb x4_0
  have _ := ltb xb4
  have X4_1 := hid x4_1; clear x4_1
  have X4_2 := hid x4_2; clear x4_2
  have X4_0 := hid x4_0; clear x4_0
  have Xb4 := hid xb4; clear xb4
  have G4 := hid (G3.out.trans g4)
  clear hg4 g4
  go_wp2_with fail
  refine (HI.out _ _ _ (hid (RdF.of_block (((Gr.refl _).al _).keep Xb4.out)))).mono ?_
  rintro e w5 ⟨rfl, hg5⟩
  obtain ⟨x5_0, hz5, g5⟩ := alloc1 hg5
  have x5_1 := g5.keep X4_1.out
  have x5_2 := g5.keep X4_2.out
  have x5_3 := g5.keep X4_0.out
  have x5_4 := g5.keep Xb4.out
  obtain ⟨_, _, _⟩ := cells3 x5_1
  have _ := fz x5_1
  have _ := ltb x5_1
  have _ := ltb x5_2
  obtain ⟨_, _⟩ := cells2 x5_3
  have _ := fz x5_3
  have _ := ltb x5_3
  have _ := ltb x5_4
  obtain ⟨_, _, _⟩ := cells3 x5_0
  have _ := fz x5_0
  have _ := ltb x5_0
  have X5_1 := hid x5_1; clear x5_1
  have X5_2 := hid x5_2; clear x5_2
  have X5_3 := hid x5_3; clear x5_3
  have X5_4 := hid x5_4; clear x5_4
  have X5_0 := hid x5_0; clear x5_0
  have G5 := hid (G4.out.trans g5)
  clear hg5 g5
  go_wp2_with fail
  refine (eqFrac_any _ _ _).mono ?_
  rintro e w6 ⟨rfl, hg6⟩
  obtain ⟨x6_0, hz6, g6⟩ := alloc1 hg6
  have x6_1 := g6.keep X5_1.out
  have x6_2 := g6.keep X5_2.out
  have x6_3 := g6.keep X5_3.out
  have x6_4 := g6.keep X5_4.out
  have x6_5 := g6.keep X5_0.out
  obtain ⟨_, _, _⟩ := cells3 x6_1
  have _ := fz x6_1
  have _ := ltb x6_1
  have _ := ltb x6_2
  obtain ⟨_, _⟩ := cells2 x6_3
  have _ := fz x6_3
  have _ := ltb x6_3
  have _ := ltb x6_4
  obtain ⟨_, _, _⟩ := cells3 x6_5
  have _ := fz x6_5
  have _ := ltb x6_5
  obtain ⟨_, _⟩ := cells2 x6_0
  have _ := fz x6_0
  have _ := ltb x6_0
  have X6_1 := hid x6_1; clear x6_1
  have X6_2 := hid x6_2; clear x6_2
  have X6_3 := hid x6_3; clear x6_3
  have X6_4 := hid x6_4; clear x6_4
  have X6_5 := hid x6_5; clear x6_5
  have X6_0 := hid x6_0; clear x6_0
  have G6 := hid (G5.out.trans g6)
  clear hg6 g6
  go_wp2_with fail
  go_region_with (first | (go_at_call 17; refine (toSc_any _ _ _ _ xs _ hn (HR.out.keep (G6.out.trans (Gr.drew _)))).mono ?_; rintro x wb ⟨gb, rfl, xb, _, hgb⟩; have XB := hid xb; have GB := hid ((Gr.drew _).trans hgb); have X60 := hid (GB.out.keep X6_5.out); have X63 := hid (GB.out.keep X6_4.out); obtain ⟨_, _, _⟩ := cells3 X60.out; clear xb hgb) | (go_at_call 19; refine (eqSc_any _ _ _ _ _ _ xs _ (hid (RdF.of_block X63.out)) (hid (RdF.of_block XB.out)) hn).mono ?_; rintro x wd ⟨rfl, hgd⟩; have GD := hid ((G6.out.trans GB.out).trans hgd); clear hgd))
  all_goals
    go_wp2
    go_ret
    exact ⟨rfl, GD.out⟩
set_option maxRecDepth 20000 in
set_option maxHeartbeats 400000 in
theorem lawMarkAt_big (a b : Int) (A : Option Addr) (n cap : Nat) (v0 : Int) (w : World) (h : 1048576 < n) (h2 : n ≤ 9223372036854775807) :
    Calls Try.prog 6 #[scl a b A n cap, .int .i64 v0] w fun e w' => e = .returned (.bool true) ∧ Gr w w' := by
  go_enter Try.func6, Try.ntmps6
  go_wp2_with fail
  refine (szSc_no _ _ _ _ _ _ _ (by omega) h2 (by omega) (by omega)).mono ?_
  rintro e w1 ⟨rfl, hg1⟩
  obtain ⟨x1_0, hz1, g1⟩ := alloc1 hg1
  obtain ⟨_, _, _⟩ := cells3 x1_0
  have _ := fz x1_0
  have _ := ltb x1_0
  have X1_0 := hid x1_0; clear x1_0
  have G1 := hid (g1)
  clear hg1 g1
  go_wp2
  go_ret
  exact ⟨rfl, G1.out⟩

open Go.ChangeShapes Go.WideShapes Go.ChangeAt Go.Joins
theorem laidOutMarkAt : laidOutB Try.prog = true := by as_aux_lemma => kernel_rfl
set_option maxRecDepth 100000 in
theorem liftedMarkAt (os : Os) (started : os.Started) (H : Type) (enc : TypeId × Value → H) :
    ReturnsInHanded {} Try.checked os 6 .any (Rows.fnExactMarkAtSpec.pre6 enc Try.prog Try.f6 Rows.fnExactMarkAtRow.domain false) (Rows.fnExactMarkAtSpec.post enc Try.prog Try.f6 false true false false) := by
  refine returnsInHanded_of_change (C := Try.checked) ownNone started (by kernel_rfl) Try.func6
    (ChangeSpec.witness6 (enc := enc) (C := Try.checked) false ⟨#[], #[.agg #[.int .i64 0, .int .i64 0, .slice none 0 0], .int .i64 0], []⟩ 8 (by kernel_rfl) (by kernel_rfl) (by kernel_rfl) (by kernel_rfl)) ?_
  intro W base args ds gs before hval0 hW _ _
  have hval : ∀ (j : Nat) t v, Try.f6.params[j]? = some t → args[j]? = some v → Value.okWide Try.prog W .any base t v := hval0
  have hW' := hW
  obtain ⟨p, q, hA0, hV, rfl, _, _⟩ := hW
  have hA : DataW.TrodAll enc Try.prog W 0 (fun _ => true) true Try.f6.params.toList args.toList ds p := hA0
  rw [Try.params6] at hA hval
  obtain ⟨u0, u1, d0, d1, p0, p1, rfl, rfl, rfl, h0, h1⟩ := trodAll_two hA
  obtain ⟨rfl, rfl⟩ := trodVars_none hV
  obtain ⟨v0, rfl, rfl, rfl, wv0⟩ := open_i64 (hval 1 2 u1 rfl rfl) h1
  clear hA0 hval0
  simp only [List.append_nil] at hW'
  have hlt : ∀ x ∈ p0, x.block < W.heap.size := fun x hx => by simpa using hW'.lt x hx
  have done : ∀ (e : Ending) (W' : World), e = .returned (.bool true) ∧ Gr W W' → ∃ v, e = .returned v ∧ Rows.fnExactMarkAtSpec.post enc Try.prog Try.f6 false true false false W #[u0, .int .i64 v0] v W' := fun e W' ⟨he, hg⟩ => by
    subst he
    exact ⟨_, rfl, _, _, _, [], p0, [], hW', trodAll_mk1 (shut_bool Try.underlying4 _), (by have hta := trodAll_mk2 (Below.trod laidOutMarkAt (by kernel_rfl) (of_decide_eq_true (by kernel_rfl)) h0 hg.below hlt) (shut_i64 wv0); simp only [List.append_nil] at hta; exact hta), rfl, hg.below.frame _, fun h => by cases h⟩
  obtain ⟨a, b, A, n, cap, rfl, hmax, xs, rfl, hraw⟩ := open_scale (hval 0 26 u0 rfl rfl) h0
  by_cases hn : xs.length ≤ 1048576
  · obtain ⟨R0, R1, R2, hs, hi⟩ := bothMarkAt a b xs v0 hn
    exact (lawMarkAt a b A cap xs v0 R0 R1 R2 W hraw hn hs hi).mono done
  · exact (lawMarkAt_big a b A xs.length cap v0 W (by omega) hmax).mono done

set_option maxHeartbeats 2000000 in
theorem closedMarkAt : joinedFacts Try.pinned.checked.prog 6 Try.f6 Rows.fnExactMarkAtSpec Rows.fnExactMarkAtRow = true := by
  unfold joinedFacts
  refine Bool.and_eq_true_iff.2 ⟨?_, by as_aux_lemma => kernel_rfl⟩
  refine Bool.and_eq_true_iff.2 ⟨?_, by as_aux_lemma => kernel_rfl⟩
  refine Bool.and_eq_true_iff.2 ⟨?_, by as_aux_lemma => kernel_rfl⟩
  refine Bool.and_eq_true_iff.2 ⟨?_, by as_aux_lemma => kernel_rfl⟩
  refine Bool.and_eq_true_iff.2 ⟨?_, by rw [fact_make]; rfl⟩
  refine Bool.and_eq_true_iff.2 ⟨?_, by rw [fact_final]; rfl⟩
  refine Bool.and_eq_true_iff.2 ⟨?_, fact_enters⟩
  refine Bool.and_eq_true_iff.2 ⟨?_, by as_aux_lemma => kernel_rfl⟩
  refine Bool.and_eq_true_iff.2 ⟨?_, by as_aux_lemma => kernel_rfl⟩
  refine Bool.and_eq_true_iff.2 ⟨?_, by as_aux_lemma => kernel_rfl⟩
  refine Bool.and_eq_true_iff.2 ⟨?_, by as_aux_lemma => kernel_rfl⟩
  refine Bool.and_eq_true_iff.2 ⟨?_, by as_aux_lemma => kernel_rfl⟩
  refine Bool.and_eq_true_iff.2 ⟨?_, by as_aux_lemma => kernel_rfl⟩
  refine Bool.and_eq_true_iff.2 ⟨?_, by as_aux_lemma => kernel_rfl⟩
  refine Bool.and_eq_true_iff.2 ⟨?_, by as_aux_lemma => kernel_rfl⟩
  refine Bool.and_eq_true_iff.2 ⟨?_, by as_aux_lemma => kernel_rfl⟩
  refine Bool.and_eq_true_iff.2 ⟨?_, by as_aux_lemma => kernel_rfl⟩
  refine Bool.and_eq_true_iff.2 ⟨?_, by as_aux_lemma => kernel_rfl⟩
  refine Bool.and_eq_true_iff.2 ⟨?_, by as_aux_lemma => kernel_rfl⟩
  refine Bool.and_eq_true_iff.2 ⟨?_, by as_aux_lemma => kernel_rfl⟩
  refine Bool.and_eq_true_iff.2 ⟨?_, by as_aux_lemma => kernel_rfl⟩
  refine Bool.and_eq_true_iff.2 ⟨?_, by as_aux_lemma => kernel_rfl⟩
  refine Bool.and_eq_true_iff.2 ⟨?_, by as_aux_lemma => kernel_rfl⟩
  refine Bool.and_eq_true_iff.2 ⟨?_, by as_aux_lemma => kernel_rfl⟩
  refine Bool.and_eq_true_iff.2 ⟨?_, by as_aux_lemma => kernel_rfl⟩
  refine Bool.and_eq_true_iff.2 ⟨?_, by as_aux_lemma => kernel_rfl⟩
  refine Bool.and_eq_true_iff.2 ⟨?_, by as_aux_lemma => kernel_rfl⟩
  refine Bool.and_eq_true_iff.2 ⟨?_, by as_aux_lemma => kernel_rfl⟩
  refine Bool.and_eq_true_iff.2 ⟨?_, by as_aux_lemma => kernel_rfl⟩
  refine Bool.and_eq_true_iff.2 ⟨?_, by as_aux_lemma => kernel_rfl⟩
  as_aux_lemma => kernel_rfl
theorem markAt_holds : Rows.FnExactMarkAtSaid :=
  OpenClaim.holds_of_wide 6 Try.f6 rfl rfl rfl rfl rfl rfl rfl ⟨rfl, rfl, rfl, rfl, rfl⟩ rfl rfl rfl rfl rfl (by as_aux_lemma => kernel_rfl) Try.func6 closedMarkAt
    (of_decide_eq_true (by as_aux_lemma => kernel_rfl)) (by unfold Func.isWrapper; rw [if_neg (by decide +kernel)]; exact ⟨rfl, rfl⟩)
    (fun os started H enc _ => liftedMarkAt os started H enc)
#print axioms markAt_holds
end Go.Proofs.Ytfkmlgndggnhaaa
