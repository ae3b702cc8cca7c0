/- The law FnExactHullOf of the laws package returns true for all arguments, valid or not; each argument reads behind the call as before it. No condition. -/
import Derived.Test.YtmjcnagniphkeaaRows
import Derived.Test.YtmjcnagniphkeaaRn
import Derived.Test.YtmjcnagniphkeaaRd
import Derived.Test.YtmjcnagniphkeaaRn
import Derived.Test.YtmjcnagniphkeaaRf
import Derived.Test.YtmjcnagniphkeaaFacts
import Derived.ProofKit
import Derived.Carry
import Derived.Lib.SmallJoins
namespace Go.Proofs.Ytmjcnagniphkeaa
open Go.RowKit Go.Sort

set_option maxRecDepth 20000 in
set_option maxHeartbeats 400000 in
theorem lawHullOf_big0 (A0 : Option Addr) (n0 cap0 : Nat) (w : World) (h : 1048576 < n0) (h2 : n0 ≤ 9223372036854775807) :
    Calls Try.prog 5 #[.slice A0 n0 cap0] w fun e w' => e = .returned (.bool true) ∧ Gr w w' := by
  go_enter Try.func5, Try.ntmps5
  go_wp2_with fail
  refine (szN_no _ _ _ _ h h2).mono ?_
  rintro e w1 ⟨rfl, hg1⟩
  have G1 := hid (hg1)
  clear hg1
  go_wp2
  go_ret
  exact ⟨rfl, G1.out⟩
set_option maxRecDepth 20000 in
set_option maxHeartbeats 2000000 in
theorem lawHullOf (A0 : Option Addr) (cap0 : Nat) (xs0 : List (Spv)) (P0 : Int) (Q0 : Int) (P0' : Int) (Q0' : Int) (R1 : Int) (w : World) (hr0 : RawN w (.slice A0 xs0.length cap0) xs0) (hn0 : xs0.length ≤ 1048576)
    (hs : ∀ (g0 : Nat) (T0 : TypeId) (w : World), Hid (w.heap[g0]? = some (.cells (rowN xs0 []) T0)) → Calls Try.prog 24 #[sl g0 xs0.length] w fun e w' => e = .returned (.tuple #[sp P0 Q0 P0' Q0', .int .i64 R1]) ∧ Gr w w')
    (hi : ∀ (g0 : Nat) (T0 : TypeId) (w : World), Hid (w.heap[g0]? = some (.cells (rowN xs0 []) T0)) → Calls Try.prog 26 #[sl g0 xs0.length] w fun e w' => e = .returned (.tuple #[sp P0 Q0 P0' Q0', .int .i64 R1]) ∧ Gr w w') :
    Calls Try.prog 5 #[.slice A0 xs0.length cap0] w fun e w' => e = .returned (.bool true) ∧ Gr w w' := by
  have HS := hid hs; have HI := hid hi; have HR0 := hid hr0
  clear hs hi hr0
  go_enter Try.func5, Try.ntmps5
  go_wp2_with fail
  refine (szN_yes _ _ _ _ hn0).mono ?_
  rintro e w1 ⟨rfl, hg1⟩
  have G1 := hid (hg1)
  clear hg1
  go_wp2_with fail
  refine (toSpanS_any _ xs0 _ hn0 (HR0.out.keep G1.out)).mono ?_
  rintro e w2 ⟨rfl, xb2, hg2⟩
  have _ := ltb xb2
  have Xb2 := hid xb2; clear xb2
  have G2 := hid (G1.out.trans hg2)
  clear hg2
  go_wp2_with fail
  refine (HS.out _ _ _ (hid Xb2.out)).mono ?_
  rintro e w3 ⟨rfl, hg3⟩
  have x3_1 := hg3.keep Xb2.out
  have _ := ltb x3_1
  have X3_1 := hid x3_1; clear x3_1
  have G3 := hid (G2.out.trans hg3)
  clear hg3
  go_wp2_with fail
  refine (toSpanS_any _ xs0 _ hn0 (HR0.out.keep (G3.out.al _))).mono ?_
  rintro e w4 ⟨rfl, xb4, hg4⟩
  obtain ⟨x4_0, hz4, g4⟩ := alloc1 hg4
  have x4_1 := g4.keep X3_1.out
  have _ := ltb x4_1
  obtain ⟨_, _, _, _⟩ := cells4 x4_0
  have _ := fz x4_0
  have _ := ltb x4_0
  have _ := ltb xb4
  have X4_1 := hid x4_1; clear x4_1
  have X4_0 := hid x4_0; clear x4_0
  have Xb4 := hid xb4; clear xb4
  have G4 := hid (G3.out.trans g4)
  clear hg4 g4
  have Xb4 := hid (al_at Xb4.out)
  go_wp2_with fail
  refine (HI.out _ _ _ (hid Xb4.out)).mono ?_
  rintro e w5 ⟨rfl, hg5⟩
  have x5_1 := hg5.keep X4_1.out
  have x5_2 := hg5.keep X4_0.out
  have x5_3 := hg5.keep Xb4.out
  have _ := ltb x5_1
  obtain ⟨_, _, _, _⟩ := cells4 x5_2
  have _ := fz x5_2
  have _ := ltb x5_2
  have _ := ltb x5_3
  have X5_1 := hid x5_1; clear x5_1
  have X5_2 := hid x5_2; clear x5_2
  have X5_3 := hid x5_3; clear x5_3
  have G5 := hid (G4.out.trans hg5)
  clear hg5
  go_wp2_with fail
  refine (eqSpan_any _ _ _ _ _).mono ?_
  rintro e w6 ⟨rfl, hg6⟩
  obtain ⟨x6_0, hz6, g6⟩ := alloc1 hg6
  have x6_1 := g6.keep X5_1.out
  have x6_2 := g6.keep X5_2.out
  have x6_3 := g6.keep X5_3.out
  have _ := ltb x6_1
  obtain ⟨_, _, _, _⟩ := cells4 x6_2
  have _ := fz x6_2
  have _ := ltb x6_2
  have _ := ltb x6_3
  obtain ⟨_, _, _, _⟩ := cells4 x6_0
  have _ := fz x6_0
  have _ := ltb x6_0
  have X6_1 := hid x6_1; clear x6_1
  have X6_2 := hid x6_2; clear x6_2
  have X6_3 := hid x6_3; clear x6_3
  have X6_0 := hid x6_0; clear x6_0
  have G6 := hid (G5.out.trans g6)
  clear hg6 g6
  go_wp2_with fail
  refine (toSpanS_any _ xs0 _ hn0 (HR0.out.keep G6.out)).mono ?_
  rintro e w7 ⟨rfl, xb7, hg7⟩
  have x7_1 := hg7.keep X6_1.out
  have x7_2 := hg7.keep X6_2.out
  have x7_3 := hg7.keep X6_3.out
  have x7_4 := hg7.keep X6_0.out
  have _ := ltb x7_1
  obtain ⟨_, _, _, _⟩ := cells4 x7_2
  have _ := fz x7_2
  have _ := ltb x7_2
  have _ := ltb x7_3
  obtain ⟨_, _, _, _⟩ := cells4 x7_4
  have _ := fz x7_4
  have _ := ltb x7_4
  have _ := ltb xb7
  have X7_1 := hid x7_1; clear x7_1
  have X7_2 := hid x7_2; clear x7_2
  have X7_3 := hid x7_3; clear x7_3
  have X7_4 := hid x7_4; clear x7_4
  have Xb7 := hid xb7; clear xb7
  have G7 := hid (G6.out.trans hg7)
  clear hg7
  go_wp2_with fail
  refine (eqN_any _ _ _ _ xs0 _ (hid (RdN.of_block X7_3.out)) (hid (RdN.of_block Xb7.out)) hn0).mono ?_
  rintro e w8 ⟨rfl, hg8⟩
  have x8_1 := hg8.keep X7_1.out
  have x8_2 := hg8.keep X7_2.out
  have x8_3 := hg8.keep X7_3.out
  have x8_4 := hg8.keep X7_4.out
  have x8_5 := hg8.keep Xb7.out
  have _ := ltb x8_1
  obtain ⟨_, _, _, _⟩ := cells4 x8_2
  have _ := fz x8_2
  have _ := ltb x8_2
  have _ := ltb x8_3
  obtain ⟨_, _, _, _⟩ := cells4 x8_4
  have _ := fz x8_4
  have _ := ltb x8_4
  have _ := ltb x8_5
  have X8_1 := hid x8_1; clear x8_1
  have X8_2 := hid x8_2; clear x8_2
  have X8_3 := hid x8_3; clear x8_3
  have X8_4 := hid x8_4; clear x8_4
  have X8_5 := hid x8_5; clear x8_5
  have G8 := hid (G7.out.trans hg8)
  clear hg8
  go_wp2
  go_ret
  exact ⟨rfl, G8.out⟩

open Go.ChangeShapes Go.WideShapes Go.ChangeAt Go.Joins
theorem laidOutHullOf : laidOutB Try.prog = true := by as_aux_lemma => kernel_rfl
set_option maxRecDepth 100000 in
theorem liftedHullOf (os : Os) (started : os.Started) (H : Type) (enc : TypeId × Value → H) :
    ReturnsInHanded {} Try.checked os 5 .any (Rows.fnExactHullOfSpec.pre6 enc Try.prog Try.f5 Rows.fnExactHullOfRow.domain false) (Rows.fnExactHullOfSpec.post enc Try.prog Try.f5 false true false false) := by
  refine returnsInHanded_of_change (C := Try.checked) ownNone started (by kernel_rfl) Try.func5
    (ChangeSpec.witness6 (enc := enc) (C := Try.checked) false ⟨#[], #[.slice none 0 0], []⟩ 8 (by kernel_rfl) (by kernel_rfl) (by kernel_rfl) (by kernel_rfl)) ?_
  intro W base args ds gs before hval0 hW _ _
  have hval : ∀ (j : Nat) t v, Try.f5.params[j]? = some t → args[j]? = some v → Value.okWide Try.prog W .any base t v := hval0
  have hW' := hW
  obtain ⟨p, q, hA0, hV, rfl, _, _⟩ := hW
  have hA : DataW.TrodAll enc Try.prog W 0 (fun _ => true) true Try.f5.params.toList args.toList ds p := hA0
  rw [Try.params5] at hA hval
  obtain ⟨v0, d0, rfl, rfl, h0⟩ := trodAll_one hA
  obtain ⟨rfl, rfl⟩ := trodVars_none hV
  clear hA0 hval0
  simp only [List.append_nil] at hW'
  have hlt : ∀ x ∈ p, x.block < W.heap.size := fun x hx => by simpa using hW'.lt x (by simpa using hx)
  have hlt0 : ∀ x ∈ p, x.block < W.heap.size := fun x hx => hlt x (by simp [hx])
  have done : ∀ (e : Ending) (W' : World), e = .returned (.bool true) ∧ Gr W W' → ∃ v, e = .returned v ∧ Rows.fnExactHullOfSpec.post enc Try.prog Try.f5 false true false false W #[v0] v W' := fun e W' ⟨he, hg⟩ => by
    subst he
    exact ⟨_, rfl, _, _, _, [], p, [], hW', trodAll_mk1 (shut_bool Try.underlying4 _), trodAll_mk1 (Below.trod laidOutHullOf (by kernel_rfl) (of_decide_eq_true (by kernel_rfl)) h0 hg.below hlt0), rfl, hg.below.frame _, fun h => by cases h⟩
  obtain ⟨A0, n0, cap0, rfl⟩ := okWide_slice Try.underlying33 (hval 0 33 v0 rfl rfl)
  obtain ⟨hmax0, xs0, rfl, hraw0⟩ := open_spans h0
  by_cases hn0 : xs0.length ≤ 1048576
  · obtain ⟨P0, Q0, P0', Q0', R1, hs, hi⟩ := bothHullOf xs0 hn0
    exact (lawHullOf A0 cap0 xs0 P0 Q0 P0' Q0' R1 W hraw0 hn0 hs hi).mono done
  · exact (lawHullOf_big0 A0 xs0.length cap0 W  (by omega) hmax0).mono done

set_option maxHeartbeats 2000000 in
theorem closedHullOf : joinedFacts Try.pinned.checked.prog 5 Try.f5 Rows.fnExactHullOfSpec Rows.fnExactHullOfRow = true := by
  unfold joinedFacts
  refine Bool.and_eq_true_iff.2 ⟨?_, by as_aux_lemma => kernel_rfl⟩
  refine Bool.and_eq_true_iff.2 ⟨?_, by as_aux_lemma => kernel_rfl⟩
  refine Bool.and_eq_true_iff.2 ⟨?_, by as_aux_lemma => kernel_rfl⟩
  refine Bool.and_eq_true_iff.2 ⟨?_, by as_aux_lemma => kernel_rfl⟩
  refine Bool.and_eq_true_iff.2 ⟨?_, by rw [fact_make]; rfl⟩
  refine Bool.and_eq_true_iff.2 ⟨?_, by rw [fact_final]; rfl⟩
  refine Bool.and_eq_true_iff.2 ⟨?_, fact_enters⟩
  refine Bool.and_eq_true_iff.2 ⟨?_, by as_aux_lemma => kernel_rfl⟩
  refine Bool.and_eq_true_iff.2 ⟨?_, by as_aux_lemma => kernel_rfl⟩
  refine Bool.and_eq_true_iff.2 ⟨?_, by as_aux_lemma => kernel_rfl⟩
  refine Bool.and_eq_true_iff.2 ⟨?_, by as_aux_lemma => kernel_rfl⟩
  refine Bool.and_eq_true_iff.2 ⟨?_, by as_aux_lemma => kernel_rfl⟩
  refine Bool.and_eq_true_iff.2 ⟨?_, by as_aux_lemma => kernel_rfl⟩
  refine Bool.and_eq_true_iff.2 ⟨?_, by as_aux_lemma => kernel_rfl⟩
  refine Bool.and_eq_true_iff.2 ⟨?_, by as_aux_lemma => kernel_rfl⟩
  refine Bool.and_eq_true_iff.2 ⟨?_, by as_aux_lemma => kernel_rfl⟩
  refine Bool.and_eq_true_iff.2 ⟨?_, by as_aux_lemma => kernel_rfl⟩
  refine Bool.and_eq_true_iff.2 ⟨?_, by as_aux_lemma => kernel_rfl⟩
  refine Bool.and_eq_true_iff.2 ⟨?_, by as_aux_lemma => kernel_rfl⟩
  refine Bool.and_eq_true_iff.2 ⟨?_, by as_aux_lemma => kernel_rfl⟩
  refine Bool.and_eq_true_iff.2 ⟨?_, by as_aux_lemma => kernel_rfl⟩
  refine Bool.and_eq_true_iff.2 ⟨?_, by as_aux_lemma => kernel_rfl⟩
  refine Bool.and_eq_true_iff.2 ⟨?_, by as_aux_lemma => kernel_rfl⟩
  refine Bool.and_eq_true_iff.2 ⟨?_, by as_aux_lemma => kernel_rfl⟩
  refine Bool.and_eq_true_iff.2 ⟨?_, by as_aux_lemma => kernel_rfl⟩
  refine Bool.and_eq_true_iff.2 ⟨?_, by as_aux_lemma => kernel_rfl⟩
  refine Bool.and_eq_true_iff.2 ⟨?_, by as_aux_lemma => kernel_rfl⟩
  refine Bool.and_eq_true_iff.2 ⟨?_, by as_aux_lemma => kernel_rfl⟩
  refine Bool.and_eq_true_iff.2 ⟨?_, by as_aux_lemma => kernel_rfl⟩
  refine Bool.and_eq_true_iff.2 ⟨?_, by as_aux_lemma => kernel_rfl⟩
  as_aux_lemma => kernel_rfl
theorem hullOf_holds : Rows.FnExactHullOfSaid :=
  OpenClaim.holds_of_wide 5 Try.f5 rfl rfl rfl rfl rfl rfl rfl ⟨rfl, rfl, rfl, rfl, rfl⟩ rfl rfl rfl rfl rfl (by as_aux_lemma => kernel_rfl) Try.func5 closedHullOf
    (of_decide_eq_true (by as_aux_lemma => kernel_rfl)) (by unfold Func.isWrapper; rw [if_neg (by decide +kernel)]; exact ⟨rfl, rfl⟩)
    (fun os started H enc _ => liftedHullOf os started H enc)
#print axioms hullOf_holds
end Go.Proofs.Ytmjcnagniphkeaa
