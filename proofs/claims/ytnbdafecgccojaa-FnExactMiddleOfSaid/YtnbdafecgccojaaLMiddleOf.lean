/- The law FnExactMiddleOf of the laws package returns true for every slice of fractions, valid or not; it reads behind the call as before it. No condition. -/
import Derived.Test.YtnbdafecgccojaaRows
import Derived.Test.YtnbdafecgccojaaQd
import Derived.Test.YtnbdafecgccojaaRd
import Derived.Test.YtnbdafecgccojaaRf
import Derived.Test.YtnbdafecgccojaaFacts
import Derived.ProofKit
import Derived.Carry
import Derived.Lib.SmallJoins
namespace Go.Proofs.Ytnbdafecgccojaa
open Go.RowKit Go.Sort

set_option maxRecDepth 20000 in
set_option maxHeartbeats 400000 in
theorem lawMiddleOf_big (A : Option Addr) (n cap : Nat) (w : World) (h : 1048576 < n) (h2 : n ≤ 9223372036854775807) :
    Calls Try.prog 6 #[.slice A n cap] w fun e w' => e = .returned (.bool true) ∧ Gr w w' := by
  go_enter Try.func6, Try.ntmps6
  go_wp2_with fail
  refine (sz_no _ _ _ _ h h2).mono ?_
  rintro e w1 ⟨rfl, hg1⟩
  have G1 := hid (hg1)
  clear hg1
  go_wp2
  go_ret
  exact ⟨rfl, G1.out⟩
set_option maxRecDepth 20000 in
set_option maxHeartbeats 1000000 in
theorem lawMiddleOf (A : Option Addr) (cap : Nat) (xs : List (Int × Int)) (P Q C : Int) (w : World) (hr : RawF w (.slice A xs.length cap) xs) (hn : xs.length ≤ 1048576)
    (hs : ∀ (w : World) (g : Nat) (T : TypeId), Hid (w.heap[g]? = some (.cells (flatA xs) T)) → Calls Try.prog 34 #[sl g xs.length] w fun e w' => e = .returned (.tuple #[fr P Q, .int .i64 C]) ∧ Gr w w')
    (hi : ∀ (w : World) (g : Nat) (T : TypeId), Hid (w.heap[g]? = some (.cells (flatA xs) T)) → Calls Try.prog 35 #[sl g xs.length] w fun e w' => e = .returned (.tuple #[fr P Q, .int .i64 C]) ∧ Gr w w') :
    Calls Try.prog 6 #[.slice A xs.length cap] w fun e w' => e = .returned (.bool true) ∧ Gr w w' := by
  have HS := hid hs; have HI := hid hi; have HR := hid hr
  clear hs hi hr
  go_enter Try.func6, Try.ntmps6
  go_wp2_with fail
  refine (sz_yes _ _ _ _ hn).mono ?_
  rintro e w1 ⟨rfl, hg1⟩
  have G1 := hid (hg1)
  clear hg1
  go_wp2_with fail
  refine (toFracS_any _ xs _ hn (HR.out.keep G1.out)).mono ?_
  rintro e w2 ⟨rfl, xb2, hg2⟩
  have _ := ltb xb2
  have Xb2 := hid xb2; clear xb2
  have G2 := hid (G1.out.trans hg2)
  clear hg2
  go_wp2_with fail
  refine (HS.out _ _ _ (hid Xb2.out)).mono ?_
  rintro e w3 ⟨rfl, hg3⟩
  have x3_1 := hg3.keep Xb2.out
  have _ := ltb x3_1
  have X3_1 := hid x3_1; clear x3_1
  have G3 := hid (G2.out.trans hg3)
  clear hg3
  go_wp2_with fail
  refine (toFracS_any _ xs _ hn (HR.out.keep (G3.out.al _))).mono ?_
  rintro e w4 ⟨rfl, xb4, hg4⟩
  obtain ⟨x4_0, hz4, g4⟩ := alloc1 hg4
  have x4_1 := g4.keep X3_1.out
  have _ := ltb x4_1
  obtain ⟨_, _⟩ := cells2 x4_0
  have _ := fz x4_0
  have _ := ltb x4_0
  have _ := ltb xb4
  have X4_1 := hid x4_1; clear x4_1
  have X4_0 := hid x4_0; clear x4_0
  have Xb4 := hid xb4; clear xb4
  have G4 := hid (G3.out.trans g4)
  clear hg4 g4
  have Xb4 := hid (al_at Xb4.out)
  go_wp2_with fail
  refine (HI.out _ _ _ (hid Xb4.out)).mono ?_
  rintro e w5 ⟨rfl, hg5⟩
  have x5_1 := hg5.keep X4_1.out
  have x5_2 := hg5.keep X4_0.out
  have x5_3 := hg5.keep Xb4.out
  have _ := ltb x5_1
  obtain ⟨_, _⟩ := cells2 x5_2
  have _ := fz x5_2
  have _ := ltb x5_2
  have _ := ltb x5_3
  have X5_1 := hid x5_1; clear x5_1
  have X5_2 := hid x5_2; clear x5_2
  have X5_3 := hid x5_3; clear x5_3
  have G5 := hid (G4.out.trans hg5)
  clear hg5
  go_wp2_with fail
  refine (eqFrac_any _ _ _).mono ?_
  rintro e w6 ⟨rfl, hg6⟩
  obtain ⟨x6_0, hz6, g6⟩ := alloc1 hg6
  have x6_1 := g6.keep X5_1.out
  have x6_2 := g6.keep X5_2.out
  have x6_3 := g6.keep X5_3.out
  have _ := ltb x6_1
  obtain ⟨_, _⟩ := cells2 x6_2
  have _ := fz x6_2
  have _ := ltb x6_2
  have _ := ltb x6_3
  obtain ⟨_, _⟩ := cells2 x6_0
  have _ := fz x6_0
  have _ := ltb x6_0
  have X6_1 := hid x6_1; clear x6_1
  have X6_2 := hid x6_2; clear x6_2
  have X6_3 := hid x6_3; clear x6_3
  have X6_0 := hid x6_0; clear x6_0
  have G6 := hid (G5.out.trans g6)
  clear hg6 g6
  go_wp2_with fail
  refine (toFracS_any _ xs _ hn (HR.out.keep G6.out)).mono ?_
  rintro e w7 ⟨rfl, xb7, hg7⟩
  have x7_1 := hg7.keep X6_1.out
  have x7_2 := hg7.keep X6_2.out
  have x7_3 := hg7.keep X6_3.out
  have x7_4 := hg7.keep X6_0.out
  have _ := ltb x7_1
  obtain ⟨_, _⟩ := cells2 x7_2
  have _ := fz x7_2
  have _ := ltb x7_2
  have _ := ltb x7_3
  obtain ⟨_, _⟩ := cells2 x7_4
  have _ := fz x7_4
  have _ := ltb x7_4
  have _ := ltb xb7
  have X7_1 := hid x7_1; clear x7_1
  have X7_2 := hid x7_2; clear x7_2
  have X7_3 := hid x7_3; clear x7_3
  have X7_4 := hid x7_4; clear x7_4
  have Xb7 := hid xb7; clear xb7
  have G7 := hid (G6.out.trans hg7)
  clear hg7
  go_wp2_with fail
  refine (eqFracS_any _ _ xs _ _ _ (hid X7_3.out) (hid Xb7.out) hn).mono ?_
  rintro e w8 ⟨rfl, hg8⟩
  have x8_1 := hg8.keep X7_1.out
  have x8_2 := hg8.keep X7_2.out
  have x8_3 := hg8.keep X7_3.out
  have x8_4 := hg8.keep X7_4.out
  have x8_5 := hg8.keep Xb7.out
  have _ := ltb x8_1
  obtain ⟨_, _⟩ := cells2 x8_2
  have _ := fz x8_2
  have _ := ltb x8_2
  have _ := ltb x8_3
  obtain ⟨_, _⟩ := cells2 x8_4
  have _ := fz x8_4
  have _ := ltb x8_4
  have _ := ltb x8_5
  have X8_1 := hid x8_1; clear x8_1
  have X8_2 := hid x8_2; clear x8_2
  have X8_3 := hid x8_3; clear x8_3
  have X8_4 := hid x8_4; clear x8_4
  have X8_5 := hid x8_5; clear x8_5
  have G8 := hid (G7.out.trans hg8)
  clear hg8
  go_wp2
  go_ret
  exact ⟨rfl, G8.out⟩

open Go.ChangeShapes Go.WideShapes Go.ChangeAt Go.Joins
theorem laidOutMiddleOf : laidOutB Try.prog = true := by as_aux_lemma => kernel_rfl
set_option maxRecDepth 100000 in
theorem liftedMiddleOf (os : Os) (started : os.Started) (H : Type) (enc : TypeId × Value → H) :
    ReturnsInHanded {} Try.checked os 6 .any (Rows.fnExactMiddleOfSpec.pre6 enc Try.prog Try.f6 Rows.fnExactMiddleOfRow.domain false) (Rows.fnExactMiddleOfSpec.post enc Try.prog Try.f6 false true false false) := by
  refine returnsInHanded_of_change (C := Try.checked) ownNone started (by kernel_rfl) Try.func6
    (ChangeSpec.witness6 (enc := enc) (C := Try.checked) false ⟨#[], #[.slice none 0 0], []⟩ 8 (by kernel_rfl) (by kernel_rfl) (by kernel_rfl) (by kernel_rfl)) ?_
  intro W base args ds gs before hval0 hW _ _
  have hval : ∀ (j : Nat) t v, Try.f6.params[j]? = some t → args[j]? = some v → Value.okWide Try.prog W .any base t v := hval0
  have hW' := hW
  obtain ⟨p, q, hA0, hV, rfl, _, _⟩ := hW
  have hA : DataW.TrodAll enc Try.prog W 0 (fun _ => true) true Try.f6.params.toList args.toList ds p := hA0
  rw [Try.params6] at hA hval
  obtain ⟨v0, d0, rfl, rfl, h0⟩ := trodAll_one hA
  obtain ⟨rfl, rfl⟩ := trodVars_none hV
  clear hA0 hval0
  simp only [List.append_nil] at hW'
  have hlt : ∀ x ∈ p, x.block < W.heap.size := fun x hx => by simpa using hW'.lt x hx
  have done : ∀ (e : Ending) (W' : World), e = .returned (.bool true) ∧ Gr W W' → ∃ v, e = .returned v ∧ Rows.fnExactMiddleOfSpec.post enc Try.prog Try.f6 false true false false W #[v0] v W' := fun e W' ⟨he, hg⟩ => by
    subst he
    exact ⟨_, rfl, _, _, _, [], p, [], hW', trodAll_mk1 (shut_bool Try.underlying4 _), trodAll_mk1 (Below.trod laidOutMiddleOf (by kernel_rfl) (of_decide_eq_true (by kernel_rfl)) h0 hg.below hlt), rfl, hg.below.frame _, fun h => by cases h⟩
  obtain ⟨A, n, cap, rfl⟩ := okWide_slice Try.underlying24 (hval 0 24 v0 rfl rfl)
  obtain ⟨hmax, xs, rfl, hraw⟩ := open_fracs h0
  by_cases hn : xs.length ≤ 1048576
  · obtain ⟨P, Q, C, hs, hi⟩ := bothMiddleOf xs hn
    exact (lawMiddleOf A cap xs P Q C W hraw hn hs hi).mono done
  · exact (lawMiddleOf_big A xs.length cap W (by omega) hmax).mono done

set_option maxHeartbeats 2000000 in
theorem closedMiddleOf : joinedFacts Try.pinned.checked.prog 6 Try.f6 Rows.fnExactMiddleOfSpec Rows.fnExactMiddleOfRow = true := by
  unfold joinedFacts
  refine Bool.and_eq_true_iff.2 ⟨?_, by as_aux_lemma => kernel_rfl⟩
  refine Bool.and_eq_true_iff.2 ⟨?_, by as_aux_lemma => kernel_rfl⟩
  refine Bool.and_eq_true_iff.2 ⟨?_, by as_aux_lemma => kernel_rfl⟩
  refine Bool.and_eq_true_iff.2 ⟨?_, by as_aux_lemma => kernel_rfl⟩
  refine Bool.and_eq_true_iff.2 ⟨?_, by rw [fact_make]; rfl⟩
  refine Bool.and_eq_true_iff.2 ⟨?_, by rw [fact_final]; rfl⟩
  refine Bool.and_eq_true_iff.2 ⟨?_, fact_enters⟩
  refine Bool.and_eq_true_iff.2 ⟨?_, by as_aux_lemma => kernel_rfl⟩
  refine Bool.and_eq_true_iff.2 ⟨?_, by as_aux_lemma => kernel_rfl⟩
  refine Bool.and_eq_true_iff.2 ⟨?_, by as_aux_lemma => kernel_rfl⟩
  refine Bool.and_eq_true_iff.2 ⟨?_, by as_aux_lemma => kernel_rfl⟩
  refine Bool.and_eq_true_iff.2 ⟨?_, by as_aux_lemma => kernel_rfl⟩
  refine Bool.and_eq_true_iff.2 ⟨?_, by as_aux_lemma => kernel_rfl⟩
  refine Bool.and_eq_true_iff.2 ⟨?_, by as_aux_lemma => kernel_rfl⟩
  refine Bool.and_eq_true_iff.2 ⟨?_, by as_aux_lemma => kernel_rfl⟩
  refine Bool.and_eq_true_iff.2 ⟨?_, by as_aux_lemma => kernel_rfl⟩
  refine Bool.and_eq_true_iff.2 ⟨?_, by as_aux_lemma => kernel_rfl⟩
  refine Bool.and_eq_true_iff.2 ⟨?_, by as_aux_lemma => kernel_rfl⟩
  refine Bool.and_eq_true_iff.2 ⟨?_, by as_aux_lemma => kernel_rfl⟩
  refine Bool.and_eq_true_iff.2 ⟨?_, by as_aux_lemma => kernel_rfl⟩
  refine Bool.and_eq_true_iff.2 ⟨?_, by as_aux_lemma => kernel_rfl⟩
  refine Bool.and_eq_true_iff.2 ⟨?_, by as_aux_lemma => kernel_rfl⟩
  refine Bool.and_eq_true_iff.2 ⟨?_, by as_aux_lemma => kernel_rfl⟩
  refine Bool.and_eq_true_iff.2 ⟨?_, by as_aux_lemma => kernel_rfl⟩
  refine Bool.and_eq_true_iff.2 ⟨?_, by as_aux_lemma => kernel_rfl⟩
  refine Bool.and_eq_true_iff.2 ⟨?_, by as_aux_lemma => kernel_rfl⟩
  refine Bool.and_eq_true_iff.2 ⟨?_, by as_aux_lemma => kernel_rfl⟩
  refine Bool.and_eq_true_iff.2 ⟨?_, by as_aux_lemma => kernel_rfl⟩
  refine Bool.and_eq_true_iff.2 ⟨?_, by as_aux_lemma => kernel_rfl⟩
  refine Bool.and_eq_true_iff.2 ⟨?_, by as_aux_lemma => kernel_rfl⟩
  as_aux_lemma => kernel_rfl
theorem middleOf_holds : Rows.FnExactMiddleOfSaid :=
  OpenClaim.holds_of_wide 6 Try.f6 rfl rfl rfl rfl rfl rfl rfl ⟨rfl, rfl, rfl, rfl, rfl⟩ rfl rfl rfl rfl rfl (by as_aux_lemma => kernel_rfl) Try.func6 closedMiddleOf
    (of_decide_eq_true (by as_aux_lemma => kernel_rfl)) (by unfold Func.isWrapper; rw [if_neg (by decide +kernel)]; exact ⟨rfl, rfl⟩)
    (fun os started H enc _ => liftedMiddleOf os started H enc)
#print axioms middleOf_holds
end Go.Proofs.Ytnbdafecgccojaa
