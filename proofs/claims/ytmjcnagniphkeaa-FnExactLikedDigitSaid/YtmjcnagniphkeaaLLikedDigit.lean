/- The law FnExactLikedDigit of the laws package returns true for all arguments, valid or not; each argument reads behind the call as before it. No condition. -/
import Derived.Test.YtmjcnagniphkeaaRows
import Derived.Test.YtmjcnagniphkeaaPg
import Derived.Test.YtmjcnagniphkeaaRd
import Derived.Test.YtmjcnagniphkeaaRj
import Derived.Test.YtmjcnagniphkeaaFacts
import Derived.ProofKit
import Derived.Carry
import Derived.Lib.SmallJoins
namespace Go.Proofs.Ytmjcnagniphkeaa
open Go.RowKit Go.Sort

set_option maxRecDepth 20000 in
set_option maxHeartbeats 400000 in
theorem lawLikedDigit_big0 (A0 : Option Addr) (n0 cap0 : Nat) (w : World) (h : 1048576 < n0) (h2 : n0 ≤ 9223372036854775807) :
    Calls Try.prog 11 #[.slice A0 n0 cap0] w fun e w' => e = .returned (.bool true) ∧ Gr w w' := by
  go_enter Try.func11, Try.ntmps11
  go_wp2
  go_ret
  exact ⟨rfl, Gr.refl _⟩
set_option maxRecDepth 20000 in
set_option maxHeartbeats 2000000 in
theorem lawLikedDigit (A0 : Option Addr) (cap0 : Nat) (xs0 : List (Int)) (R0 : Int) (R1 : Int) (R2 : Int) (w : World) (hr0 : RawI w (.slice A0 xs0.length cap0) xs0) (hn0 : xs0.length ≤ 1048576)
    (hs : ∀ (B0 : Option Addr) (c0 : Nat) (w : World), Hid (RdI w B0 xs0) → Calls Try.prog 54 #[.slice B0 xs0.length c0] w fun e w' => e = .returned (.tuple #[.int .i64 R0, .int .i64 R1, .int .i64 R2]) ∧ Gr w w')
    (hi : ∀ (B0 : Option Addr) (c0 : Nat) (w : World), Hid (RdI w B0 xs0) → Calls Try.prog 55 #[.slice B0 xs0.length c0] w fun e w' => e = .returned (.tuple #[.int .i64 R0, .int .i64 R1, .int .i64 R2]) ∧ Gr w w') :
    Calls Try.prog 11 #[.slice A0 xs0.length cap0] w fun e w' => e = .returned (.bool true) ∧ Gr w w' := by
  have HS := hid hs; have HI := hid hi; have HR0 := hid hr0
  clear hs hi hr0
  go_enter Try.func11, Try.ntmps11
  go_wp2_with fail
  refine (toInt64S_any _ xs0 _ hn0 (HR0.out.keep (Gr.refl w))).mono ?_
  rintro e w1 ⟨rfl, xb1, hg1⟩
  have _ := ltb xb1
  have Xb1 := hid xb1; clear xb1
  have G1 := hid (hg1)
  clear hg1
  go_wp2_with fail
  refine (HS.out _ _ _ (hid (RdI.of_block Xb1.out))).mono ?_
  rintro e w2 ⟨rfl, hg2⟩
  have x2_1 := hg2.keep Xb1.out
  have _ := ltb x2_1
  have X2_1 := hid x2_1; clear x2_1
  have G2 := hid (G1.out.trans hg2)
  clear hg2
  go_wp2_with fail
  refine (toInt64S_any _ xs0 _ hn0 (HR0.out.keep G2.out)).mono ?_
  rintro e w3 ⟨rfl, xb3, hg3⟩
  have x3_1 := hg3.keep X2_1.out
  have _ := ltb x3_1
  have _ := ltb xb3
  have X3_1 := hid x3_1; clear x3_1
  have Xb3 := hid xb3; clear xb3
  have G3 := hid (G2.out.trans hg3)
  clear hg3
  go_wp2_with fail
  refine (HI.out _ _ _ (hid (RdI.of_block Xb3.out))).mono ?_
  rintro e w4 ⟨rfl, hg4⟩
  have x4_1 := hg4.keep X3_1.out
  have x4_2 := hg4.keep Xb3.out
  have _ := ltb x4_1
  have _ := ltb x4_2
  have X4_1 := hid x4_1; clear x4_1
  have X4_2 := hid x4_2; clear x4_2
  have G4 := hid (G3.out.trans hg4)
  clear hg4
  go_wp2_with fail
  refine (toInt64S_any _ xs0 _ hn0 (HR0.out.keep G4.out)).mono ?_
  rintro e w5 ⟨rfl, xb5, hg5⟩
  have x5_1 := hg5.keep X4_1.out
  have x5_2 := hg5.keep X4_2.out
  have _ := ltb x5_1
  have _ := ltb x5_2
  have _ := ltb xb5
  have X5_1 := hid x5_1; clear x5_1
  have X5_2 := hid x5_2; clear x5_2
  have Xb5 := hid xb5; clear xb5
  have G5 := hid (G4.out.trans hg5)
  clear hg5
  go_wp2_with fail
  refine (eqInt64S_any _ _ _ _ xs0 _ (hid (RdI.of_block X5_2.out)) (hid (RdI.of_block Xb5.out)) hn0).mono ?_
  rintro e w6 ⟨rfl, hg6⟩
  have x6_1 := hg6.keep X5_1.out
  have x6_2 := hg6.keep X5_2.out
  have x6_3 := hg6.keep Xb5.out
  have _ := ltb x6_1
  have _ := ltb x6_2
  have _ := ltb x6_3
  have X6_1 := hid x6_1; clear x6_1
  have X6_2 := hid x6_2; clear x6_2
  have X6_3 := hid x6_3; clear x6_3
  have G6 := hid (G5.out.trans hg6)
  clear hg6
  go_wp2
  go_ret
  exact ⟨rfl, G6.out⟩

open Go.ChangeShapes Go.WideShapes Go.ChangeAt Go.Joins
theorem laidOutLikedDigit : laidOutB Try.prog = true := by as_aux_lemma => kernel_rfl
set_option maxRecDepth 100000 in
theorem liftedLikedDigit (os : Os) (started : os.Started) (H : Type) (enc : TypeId × Value → H) :
    ReturnsInHanded {} Try.checked os 11 .any (Rows.fnExactLikedDigitSpec.pre6 enc Try.prog Try.f11 Rows.fnExactLikedDigitRow.domain false) (Rows.fnExactLikedDigitSpec.post enc Try.prog Try.f11 false true false false) := by
  refine returnsInHanded_of_change (C := Try.checked) ownNone started (by kernel_rfl) Try.func11
    (ChangeSpec.witness6 (enc := enc) (C := Try.checked) false ⟨#[], #[.slice none 0 0], []⟩ 8 (by kernel_rfl) (by kernel_rfl) (by kernel_rfl) (by kernel_rfl)) ?_
  intro W base args ds gs before hval0 hW _ _
  have hval : ∀ (j : Nat) t v, Try.f11.params[j]? = some t → args[j]? = some v → Value.okWide Try.prog W .any base t v := hval0
  have hW' := hW
  obtain ⟨p, q, hA0, hV, rfl, _, _⟩ := hW
  have hA : DataW.TrodAll enc Try.prog W 0 (fun _ => true) true Try.f11.params.toList args.toList ds p := hA0
  rw [Try.params11] at hA hval
  obtain ⟨v0, d0, rfl, rfl, h0⟩ := trodAll_one hA
  obtain ⟨rfl, rfl⟩ := trodVars_none hV
  clear hA0 hval0
  simp only [List.append_nil] at hW'
  have hlt : ∀ x ∈ p, x.block < W.heap.size := fun x hx => by simpa using hW'.lt x (by simpa using hx)
  have hlt0 : ∀ x ∈ p, x.block < W.heap.size := fun x hx => hlt x (by simp [hx])
  have done : ∀ (e : Ending) (W' : World), e = .returned (.bool true) ∧ Gr W W' → ∃ v, e = .returned v ∧ Rows.fnExactLikedDigitSpec.post enc Try.prog Try.f11 false true false false W #[v0] v W' := fun e W' ⟨he, hg⟩ => by
    subst he
    exact ⟨_, rfl, _, _, _, [], p, [], hW', trodAll_mk1 (shut_bool Try.underlying4 _), trodAll_mk1 (Below.trod laidOutLikedDigit (by kernel_rfl) (of_decide_eq_true (by kernel_rfl)) h0 hg.below hlt0), rfl, hg.below.frame _, fun h => by cases h⟩
  obtain ⟨A0, n0, cap0, rfl⟩ := okWide_slice Try.underlying80 (hval 0 80 v0 rfl rfl)
  obtain ⟨hmax0, xs0, rfl, hraw0⟩ := open_rawI h0
  by_cases hn0 : xs0.length ≤ 1048576
  · obtain ⟨R0, R1, R2, hs, hi⟩ := bothLikedDigit xs0 hn0
    exact (lawLikedDigit A0 cap0 xs0 R0 R1 R2 W hraw0 hn0 hs hi).mono done
  · exact (lawLikedDigit_big0 A0 xs0.length cap0 W  (by omega) hmax0).mono done

set_option maxHeartbeats 2000000 in
theorem closedLikedDigit : joinedFacts Try.pinned.checked.prog 11 Try.f11 Rows.fnExactLikedDigitSpec Rows.fnExactLikedDigitRow = true := by
  unfold joinedFacts
  refine Bool.and_eq_true_iff.2 ⟨?_, by as_aux_lemma => kernel_rfl⟩
  refine Bool.and_eq_true_iff.2 ⟨?_, by as_aux_lemma => kernel_rfl⟩
  refine Bool.and_eq_true_iff.2 ⟨?_, by as_aux_lemma => kernel_rfl⟩
  refine Bool.and_eq_true_iff.2 ⟨?_, by as_aux_lemma => kernel_rfl⟩
  refine Bool.and_eq_true_iff.2 ⟨?_, by rw [fact_make]; rfl⟩
  refine Bool.and_eq_true_iff.2 ⟨?_, by rw [fact_final]; rfl⟩
  refine Bool.and_eq_true_iff.2 ⟨?_, fact_enters⟩
  refine Bool.and_eq_true_iff.2 ⟨?_, by as_aux_lemma => kernel_rfl⟩
  refine Bool.and_eq_true_iff.2 ⟨?_, by as_aux_lemma => kernel_rfl⟩
  refine Bool.and_eq_true_iff.2 ⟨?_, by as_aux_lemma => kernel_rfl⟩
  refine Bool.and_eq_true_iff.2 ⟨?_, by as_aux_lemma => kernel_rfl⟩
  refine Bool.and_eq_true_iff.2 ⟨?_, by as_aux_lemma => kernel_rfl⟩
  refine Bool.and_eq_true_iff.2 ⟨?_, by as_aux_lemma => kernel_rfl⟩
  refine Bool.and_eq_true_iff.2 ⟨?_, by as_aux_lemma => kernel_rfl⟩
  refine Bool.and_eq_true_iff.2 ⟨?_, by as_aux_lemma => kernel_rfl⟩
  refine Bool.and_eq_true_iff.2 ⟨?_, by as_aux_lemma => kernel_rfl⟩
  refine Bool.and_eq_true_iff.2 ⟨?_, by as_aux_lemma => kernel_rfl⟩
  refine Bool.and_eq_true_iff.2 ⟨?_, by as_aux_lemma => kernel_rfl⟩
  refine Bool.and_eq_true_iff.2 ⟨?_, by as_aux_lemma => kernel_rfl⟩
  refine Bool.and_eq_true_iff.2 ⟨?_, by as_aux_lemma => kernel_rfl⟩
  refine Bool.and_eq_true_iff.2 ⟨?_, by as_aux_lemma => kernel_rfl⟩
  refine Bool.and_eq_true_iff.2 ⟨?_, by as_aux_lemma => kernel_rfl⟩
  refine Bool.and_eq_true_iff.2 ⟨?_, by as_aux_lemma => kernel_rfl⟩
  refine Bool.and_eq_true_iff.2 ⟨?_, by as_aux_lemma => kernel_rfl⟩
  refine Bool.and_eq_true_iff.2 ⟨?_, by as_aux_lemma => kernel_rfl⟩
  refine Bool.and_eq_true_iff.2 ⟨?_, by as_aux_lemma => kernel_rfl⟩
  refine Bool.and_eq_true_iff.2 ⟨?_, by as_aux_lemma => kernel_rfl⟩
  refine Bool.and_eq_true_iff.2 ⟨?_, by as_aux_lemma => kernel_rfl⟩
  refine Bool.and_eq_true_iff.2 ⟨?_, by as_aux_lemma => kernel_rfl⟩
  refine Bool.and_eq_true_iff.2 ⟨?_, by as_aux_lemma => kernel_rfl⟩
  as_aux_lemma => kernel_rfl
theorem likedDigit_holds : Rows.FnExactLikedDigitSaid :=
  OpenClaim.holds_of_wide 11 Try.f11 rfl rfl rfl rfl rfl rfl rfl ⟨rfl, rfl, rfl, rfl, rfl⟩ rfl rfl rfl rfl rfl (by as_aux_lemma => kernel_rfl) Try.func11 closedLikedDigit
    (of_decide_eq_true (by as_aux_lemma => kernel_rfl)) (by unfold Func.isWrapper; rw [if_neg (by decide +kernel)]; exact ⟨rfl, rfl⟩)
    (fun os started H enc _ => liftedLikedDigit os started H enc)
#print axioms likedDigit_holds
end Go.Proofs.Ytmjcnagniphkeaa
