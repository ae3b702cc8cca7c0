/- The law FnExactMedianOf of the laws package returns true for all arguments, valid or not; each argument reads behind the call as before it. No condition. -/
import Derived.Test.YtnbdafecgccojaaRows
import Derived.Test.YtnbdafecgccojaaQc
import Derived.Test.YtnbdafecgccojaaRd
import Derived.Test.YtnbdafecgccojaaRj
import Derived.Test.YtnbdafecgccojaaRf
import Derived.Test.YtnbdafecgccojaaFacts
import Derived.ProofKit
import Derived.Carry
import Derived.Lib.SmallJoins
namespace Go.Proofs.Ytnbdafecgccojaa
open Go.RowKit Go.Sort

set_option maxRecDepth 20000 in
set_option maxHeartbeats 400000 in
theorem lawMedianOf_big0 (A0 : Option Addr) (n0 cap0 : Nat) (w : World) (h : 1048576 < n0) (h2 : n0 ≤ 9223372036854775807) :
    Calls Try.prog 7 #[.slice A0 n0 cap0] w fun e w' => e = .returned (.bool true) ∧ Gr w w' := by
  go_enter Try.func7, Try.ntmps7
  go_wp2
  go_ret
  exact ⟨rfl, Gr.refl _⟩
set_option maxRecDepth 20000 in
set_option maxHeartbeats 2000000 in
theorem lawMedianOf (A0 : Option Addr) (cap0 : Nat) (xs0 : List (Int)) (P0 : Int) (Q0 : Int) (R1 : Int) (w : World)  (hr0 : RawI w (.slice A0 xs0.length cap0) xs0) (hn0 : xs0.length ≤ 1048576)
    (hs : ∀ (B0 : Option Addr) (c0 : Nat) (w : World), Hid (RdI w B0 xs0) → Calls Try.prog 36 #[.slice B0 xs0.length c0] w fun e w' => e = .returned (.tuple #[fr P0 Q0, .int .i64 R1]) ∧ Gr w w')
    (hi : ∀ (B0 : Option Addr) (c0 : Nat) (w : World), Hid (RdI w B0 xs0) → Calls Try.prog 38 #[.slice B0 xs0.length c0] w fun e w' => e = .returned (.tuple #[fr P0 Q0, .int .i64 R1]) ∧ Gr w w') :
    Calls Try.prog 7 #[.slice A0 xs0.length cap0] w fun e w' => e = .returned (.bool true) ∧ Gr w w' := by
  have HS := hid hs; have HI := hid hi; have HR0 := hid hr0
  clear hs hi hr0
  go_enter Try.func7, Try.ntmps7
  go_wp2_with fail
  refine (toInt64S_any _ xs0 _ hn0 (HR0.out.keep (Gr.refl w))).mono ?_
  rintro e w1 ⟨rfl, xb1, hg1⟩
  have _ := ltb xb1
  have Xb1 := hid xb1; clear xb1
  have G1 := hid (hg1)
  clear hg1
  go_wp2_with fail
  refine (HS.out _ _ _ (hid (RdI.of_block Xb1.out))).mono ?_
  rintro e w2 ⟨rfl, hg2⟩
  have x2_1 := hg2.keep Xb1.out
  have _ := ltb x2_1
  have X2_1 := hid x2_1; clear x2_1
  have G2 := hid (G1.out.trans hg2)
  clear hg2
  go_wp2_with fail
  refine (toInt64S_any _ xs0 _ hn0 (HR0.out.keep (G2.out.al _))).mono ?_
  rintro e w3 ⟨rfl, xb3, hg3⟩
  obtain ⟨x3_0, hz3, g3⟩ := alloc1 hg3
  have x3_1 := g3.keep X2_1.out
  have _ := ltb x3_1
  obtain ⟨_, _⟩ := cells2 x3_0
  have _ := fz x3_0
  have _ := ltb x3_0
  have _ := ltb xb3
  have X3_1 := hid x3_1; clear x3_1
  have X3_0 := hid x3_0; clear x3_0
  have Xb3 := hid xb3; clear xb3
  have G3 := hid (G2.out.trans g3)
  clear hg3 g3
  have Xb3 := hid (al_at Xb3.out)
  go_wp2_with fail
  refine (HI.out _ _ _ (hid (RdI.of_block Xb3.out))).mono ?_
  rintro e w4 ⟨rfl, hg4⟩
  have x4_1 := hg4.keep X3_1.out
  have x4_2 := hg4.keep X3_0.out
  have x4_3 := hg4.keep Xb3.out
  have _ := ltb x4_1
  obtain ⟨_, _⟩ := cells2 x4_2
  have _ := fz x4_2
  have _ := ltb x4_2
  have _ := ltb x4_3
  have X4_1 := hid x4_1; clear x4_1
  have X4_2 := hid x4_2; clear x4_2
  have X4_3 := hid x4_3; clear x4_3
  have G4 := hid (G3.out.trans hg4)
  clear hg4
  go_wp2_with fail
  refine (eqFrac_any _ _ _).mono ?_
  rintro e w5 ⟨rfl, hg5⟩
  obtain ⟨x5_0, hz5, g5⟩ := alloc1 hg5
  have x5_1 := g5.keep X4_1.out
  have x5_2 := g5.keep X4_2.out
  have x5_3 := g5.keep X4_3.out
  have _ := ltb x5_1
  obtain ⟨_, _⟩ := cells2 x5_2
  have _ := fz x5_2
  have _ := ltb x5_2
  have _ := ltb x5_3
  obtain ⟨_, _⟩ := cells2 x5_0
  have _ := fz x5_0
  have _ := ltb x5_0
  have X5_1 := hid x5_1; clear x5_1
  have X5_2 := hid x5_2; clear x5_2
  have X5_3 := hid x5_3; clear x5_3
  have X5_0 := hid x5_0; clear x5_0
  have G5 := hid (G4.out.trans g5)
  clear hg5 g5
  go_wp2_with fail
  refine (toInt64S_any _ xs0 _ hn0 (HR0.out.keep G5.out)).mono ?_
  rintro e w6 ⟨rfl, xb6, hg6⟩
  have x6_1 := hg6.keep X5_1.out
  have x6_2 := hg6.keep X5_2.out
  have x6_3 := hg6.keep X5_3.out
  have x6_4 := hg6.keep X5_0.out
  have _ := ltb x6_1
  obtain ⟨_, _⟩ := cells2 x6_2
  have _ := fz x6_2
  have _ := ltb x6_2
  have _ := ltb x6_3
  obtain ⟨_, _⟩ := cells2 x6_4
  have _ := fz x6_4
  have _ := ltb x6_4
  have _ := ltb xb6
  have X6_1 := hid x6_1; clear x6_1
  have X6_2 := hid x6_2; clear x6_2
  have X6_3 := hid x6_3; clear x6_3
  have X6_4 := hid x6_4; clear x6_4
  have Xb6 := hid xb6; clear xb6
  have G6 := hid (G5.out.trans hg6)
  clear hg6
  go_wp2_with fail
  refine (eqInt64S_any _ _ _ _ xs0 _ (hid (RdI.of_block X6_3.out)) (hid (RdI.of_block Xb6.out)) hn0).mono ?_
  rintro e w7 ⟨rfl, hg7⟩
  have x7_1 := hg7.keep X6_1.out
  have x7_2 := hg7.keep X6_2.out
  have x7_3 := hg7.keep X6_3.out
  have x7_4 := hg7.keep X6_4.out
  have x7_5 := hg7.keep Xb6.out
  have _ := ltb x7_1
  obtain ⟨_, _⟩ := cells2 x7_2
  have _ := fz x7_2
  have _ := ltb x7_2
  have _ := ltb x7_3
  obtain ⟨_, _⟩ := cells2 x7_4
  have _ := fz x7_4
  have _ := ltb x7_4
  have _ := ltb x7_5
  have X7_1 := hid x7_1; clear x7_1
  have X7_2 := hid x7_2; clear x7_2
  have X7_3 := hid x7_3; clear x7_3
  have X7_4 := hid x7_4; clear x7_4
  have X7_5 := hid x7_5; clear x7_5
  have G7 := hid (G6.out.trans hg7)
  clear hg7
  go_wp2
  go_ret
  exact ⟨rfl, G7.out⟩

open Go.ChangeShapes Go.WideShapes Go.ChangeAt Go.Joins
theorem laidOutMedianOf : laidOutB Try.prog = true := by as_aux_lemma => kernel_rfl
set_option maxRecDepth 100000 in
theorem liftedMedianOf (os : Os) (started : os.Started) (H : Type) (enc : TypeId × Value → H) :
    ReturnsInHanded {} Try.checked os 7 .any (Rows.fnExactMedianOfSpec.pre6 enc Try.prog Try.f7 Rows.fnExactMedianOfRow.domain false) (Rows.fnExactMedianOfSpec.post enc Try.prog Try.f7 false true false false) := by
  refine returnsInHanded_of_change (C := Try.checked) ownNone started (by kernel_rfl) Try.func7
    (ChangeSpec.witness6 (enc := enc) (C := Try.checked) false ⟨#[], #[.slice none 0 0], []⟩ 8 (by kernel_rfl) (by kernel_rfl) (by kernel_rfl) (by kernel_rfl)) ?_
  intro W base args ds gs before hval0 hW _ _
  have hval : ∀ (j : Nat) t v, Try.f7.params[j]? = some t → args[j]? = some v → Value.okWide Try.prog W .any base t v := hval0
  have hW' := hW
  obtain ⟨p, q, hA0, hV, rfl, _, _⟩ := hW
  have hA : DataW.TrodAll enc Try.prog W 0 (fun _ => true) true Try.f7.params.toList args.toList ds p := hA0
  rw [Try.params7] at hA hval
  obtain ⟨v0, d0, rfl, rfl, h0⟩ := trodAll_one hA
  obtain ⟨rfl, rfl⟩ := trodVars_none hV
  clear hA0 hval0
  simp only [List.append_nil] at hW'
  have hlt : ∀ x ∈ p, x.block < W.heap.size := fun x hx => by simpa using hW'.lt x (by simpa using hx)
  have hlt0 : ∀ x ∈ p, x.block < W.heap.size := fun x hx => hlt x (by simp [hx])
  have done : ∀ (e : Ending) (W' : World), e = .returned (.bool true) ∧ Gr W W' → ∃ v, e = .returned v ∧ Rows.fnExactMedianOfSpec.post enc Try.prog Try.f7 false true false false W #[v0] v W' := fun e W' ⟨he, hg⟩ => by
    subst he
    exact ⟨_, rfl, _, _, _, [], p, [], hW', trodAll_mk1 (shut_bool Try.underlying4 _), trodAll_mk1 (Below.trod laidOutMedianOf (by kernel_rfl) (of_decide_eq_true (by kernel_rfl)) h0 hg.below hlt0), rfl, hg.below.frame _, fun h => by cases h⟩
  obtain ⟨A0, n0, cap0, rfl⟩ := okWide_slice Try.underlying59 (hval 0 59 v0 rfl rfl)
  obtain ⟨hmax0, xs0, rfl, hraw0⟩ := open_rawI h0
  by_cases hn0 : xs0.length ≤ 1048576
  · obtain ⟨P0, Q0, R1, hs, hi⟩ := bothMedianOf xs0 hn0
    exact (lawMedianOf A0 cap0 xs0 P0 Q0 R1 W hraw0 hn0 hs hi).mono done
  · exact (lawMedianOf_big0 A0 xs0.length cap0 W  (by omega) hmax0).mono done

set_option maxHeartbeats 2000000 in
theorem closedMedianOf : joinedFacts Try.pinned.checked.prog 7 Try.f7 Rows.fnExactMedianOfSpec Rows.fnExactMedianOfRow = true := by
  unfold joinedFacts
  refine Bool.and_eq_true_iff.2 ⟨?_, by as_aux_lemma => kernel_rfl⟩
  refine Bool.and_eq_true_iff.2 ⟨?_, by as_aux_lemma => kernel_rfl⟩
  refine Bool.and_eq_true_iff.2 ⟨?_, by as_aux_lemma => kernel_rfl⟩
  refine Bool.and_eq_true_iff.2 ⟨?_, by as_aux_lemma => kernel_rfl⟩
  refine Bool.and_eq_true_iff.2 ⟨?_, by rw [fact_make]; rfl⟩
  refine Bool.and_eq_true_iff.2 ⟨?_, by rw [fact_final]; rfl⟩
  refine Bool.and_eq_true_iff.2 ⟨?_, fact_enters⟩
  refine Bool.and_eq_true_iff.2 ⟨?_, by as_aux_lemma => kernel_rfl⟩
  refine Bool.and_eq_true_iff.2 ⟨?_, by as_aux_lemma => kernel_rfl⟩
  refine Bool.and_eq_true_iff.2 ⟨?_, by as_aux_lemma => kernel_rfl⟩
  refine Bool.and_eq_true_iff.2 ⟨?_, by as_aux_lemma => kernel_rfl⟩
  refine Bool.and_eq_true_iff.2 ⟨?_, by as_aux_lemma => kernel_rfl⟩
  refine Bool.and_eq_true_iff.2 ⟨?_, by as_aux_lemma => kernel_rfl⟩
  refine Bool.and_eq_true_iff.2 ⟨?_, by as_aux_lemma => kernel_rfl⟩
  refine Bool.and_eq_true_iff.2 ⟨?_, by as_aux_lemma => kernel_rfl⟩
  refine Bool.and_eq_true_iff.2 ⟨?_, by as_aux_lemma => kernel_rfl⟩
  refine Bool.and_eq_true_iff.2 ⟨?_, by as_aux_lemma => kernel_rfl⟩
  refine Bool.and_eq_true_iff.2 ⟨?_, by as_aux_lemma => kernel_rfl⟩
  refine Bool.and_eq_true_iff.2 ⟨?_, by as_aux_lemma => kernel_rfl⟩
  refine Bool.and_eq_true_iff.2 ⟨?_, by as_aux_lemma => kernel_rfl⟩
  refine Bool.and_eq_true_iff.2 ⟨?_, by as_aux_lemma => kernel_rfl⟩
  refine Bool.and_eq_true_iff.2 ⟨?_, by as_aux_lemma => kernel_rfl⟩
  refine Bool.and_eq_true_iff.2 ⟨?_, by as_aux_lemma => kernel_rfl⟩
  refine Bool.and_eq_true_iff.2 ⟨?_, by as_aux_lemma => kernel_rfl⟩
  refine Bool.and_eq_true_iff.2 ⟨?_, by as_aux_lemma => kernel_rfl⟩
  refine Bool.and_eq_true_iff.2 ⟨?_, by as_aux_lemma => kernel_rfl⟩
  refine Bool.and_eq_true_iff.2 ⟨?_, by as_aux_lemma => kernel_rfl⟩
  refine Bool.and_eq_true_iff.2 ⟨?_, by as_aux_lemma => kernel_rfl⟩
  refine Bool.and_eq_true_iff.2 ⟨?_, by as_aux_lemma => kernel_rfl⟩
  refine Bool.and_eq_true_iff.2 ⟨?_, by as_aux_lemma => kernel_rfl⟩
  as_aux_lemma => kernel_rfl
theorem medianOf_holds : Rows.FnExactMedianOfSaid :=
  OpenClaim.holds_of_wide 7 Try.f7 rfl rfl rfl rfl rfl rfl rfl ⟨rfl, rfl, rfl, rfl, rfl⟩ rfl rfl rfl rfl rfl (by as_aux_lemma => kernel_rfl) Try.func7 closedMedianOf
    (of_decide_eq_true (by as_aux_lemma => kernel_rfl)) (by unfold Func.isWrapper; rw [if_neg (by decide +kernel)]; exact ⟨rfl, rfl⟩)
    (fun os started H enc _ => liftedMedianOf os started H enc)
#print axioms medianOf_holds
end Go.Proofs.Ytnbdafecgccojaa
