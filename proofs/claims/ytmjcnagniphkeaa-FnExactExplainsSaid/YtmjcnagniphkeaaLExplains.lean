/- The law FnExactExplains of the laws package returns true for all arguments, valid or not; each argument reads behind the call as before it. No condition. -/
import Derived.Test.YtmjcnagniphkeaaRows
import Derived.Test.YtmjcnagniphkeaaPj
import Derived.Test.YtmjcnagniphkeaaRd
import Derived.Test.YtmjcnagniphkeaaRj
import Derived.Test.YtmjcnagniphkeaaRf
import Derived.Test.YtmjcnagniphkeaaRg
import Derived.Test.YtmjcnagniphkeaaFacts
import Derived.ProofKit
import Derived.Carry
import Derived.Lib.SmallJoins
namespace Go.Proofs.Ytmjcnagniphkeaa
open Go.RowKit Go.Sort

set_option maxRecDepth 20000 in
set_option maxHeartbeats 400000 in
theorem lawExplains_big2 (b0 : Int) (u0 : Int) (o0 : Bool) (A1 : Option Addr) (n1 cap1 : Nat) (A2 : Option Addr) (n2 cap2 : Nat) (w : World) (h : 1048576 < n2) (h2 : n2 ≤ 9223372036854775807) :
    Calls Try.prog 13 #[gs b0 u0 o0, .slice A1 n1 cap1, .slice A2 n2 cap2] w fun e w' => e = .returned (.bool true) ∧ Gr w w' := by
  go_enter Try.func13, Try.ntmps13
  go_wp2
  go_ret
  exact ⟨rfl, (Gr.refl _).al _⟩
set_option maxRecDepth 20000 in
set_option maxHeartbeats 400000 in
theorem lawExplains_big1 (b0 : Int) (u0 : Int) (o0 : Bool) (A1 : Option Addr) (n1 cap1 : Nat) (A2 : Option Addr) (n2 cap2 : Nat) (w : World) (h2 : n2 ≤ 1048576) (h : 1048576 < n1) (h2 : n1 ≤ 9223372036854775807) :
    Calls Try.prog 13 #[gs b0 u0 o0, .slice A1 n1 cap1, .slice A2 n2 cap2] w fun e w' => e = .returned (.bool true) ∧ Gr w w' := by
  go_enter Try.func13, Try.ntmps13
  go_wp2_with fail
  refine (sz_no _ _ _ _ h h2).mono ?_
  rintro e w1 ⟨rfl, hg1⟩
  obtain ⟨x1_0, hz1, g1⟩ := alloc1 hg1
  obtain ⟨_, _, _⟩ := cells3 x1_0
  have _ := fz x1_0
  have _ := ltb x1_0
  have X1_0 := hid x1_0; clear x1_0
  have G1 := hid (g1)
  clear hg1 g1
  go_wp2
  go_ret
  exact ⟨rfl, G1.out⟩
set_option maxRecDepth 20000 in
set_option maxHeartbeats 2000000 in
theorem lawExplains (b0 : Int) (u0 : Int) (o0 : Bool) (A1 : Option Addr) (cap1 : Nat) (xs1 : List (Int × Int)) (A2 : Option Addr) (cap2 : Nat) (xs2 : List (Int)) (R0 : Bool) (R1 : Int) (w : World) (hr1 : RawF w (.slice A1 xs1.length cap1) xs1) (hn1 : xs1.length ≤ 1048576) (hr2 : RawI w (.slice A2 xs2.length cap2) xs2) (hn2 : xs2.length ≤ 1048576)
    (hs : ∀ (g1 : Nat) (T1 : TypeId) (B2 : Option Addr) (c2 : Nat) (w : World), Hid (w.heap[g1]? = some (.cells (flatA xs1) T1)) → Hid (RdI w B2 xs2) → Calls Try.prog 58 #[gs b0 u0 o0, sl g1 xs1.length, .slice B2 xs2.length c2] w fun e w' => e = .returned (.tuple #[.bool R0, .int .i64 R1]) ∧ Gr w w')
    (hi : ∀ (g1 : Nat) (T1 : TypeId) (B2 : Option Addr) (c2 : Nat) (w : World), Hid (w.heap[g1]? = some (.cells (flatA xs1) T1)) → Hid (RdI w B2 xs2) → Calls Try.prog 60 #[gs b0 u0 o0, sl g1 xs1.length, .slice B2 xs2.length c2] w fun e w' => e = .returned (.tuple #[.bool R0, .int .i64 R1]) ∧ Gr w w') :
    Calls Try.prog 13 #[gs b0 u0 o0, .slice A1 xs1.length cap1, .slice A2 xs2.length cap2] w fun e w' => e = .returned (.bool true) ∧ Gr w w' := by
  have HS := hid hs; have HI := hid hi; have HR1 := hid hr1; have HR2 := hid hr2
  clear hs hi hr1 hr2
  go_enter Try.func13, Try.ntmps13
  go_wp2_with fail
  refine (sz_yes _ _ _ _ hn1).mono ?_
  rintro e w1 ⟨rfl, hg1⟩
  obtain ⟨x1_0, hz1, g1⟩ := alloc1 hg1
  obtain ⟨_, _, _⟩ := cells3 x1_0
  have _ := fz x1_0
  have _ := ltb x1_0
  have X1_0 := hid x1_0; clear x1_0
  have G1 := hid (g1)
  clear hg1 g1
  go_wp2_with fail
  refine (toGuess_any _ _ _ _).mono ?_
  rintro e w2 ⟨rfl, hg2⟩
  have x2_1 := hg2.keep X1_0.out
  obtain ⟨_, _, _⟩ := cells3 x2_1
  have _ := fz x2_1
  have _ := ltb x2_1
  have X2_1 := hid x2_1; clear x2_1
  have G2 := hid (G1.out.trans hg2)
  clear hg2
  go_wp2_with fail
  refine (toFracS_any _ xs1 _ hn1 (HR1.out.keep G2.out)).mono ?_
  rintro e w3 ⟨rfl, xb3, hg3⟩
  have x3_1 := hg3.keep X2_1.out
  obtain ⟨_, _, _⟩ := cells3 x3_1
  have _ := fz x3_1
  have _ := ltb x3_1
  have _ := ltb xb3
  have X3_1 := hid x3_1; clear x3_1
  have Xb3 := hid xb3; clear xb3
  have G3 := hid (G2.out.trans hg3)
  clear hg3
  go_wp2_with fail
  refine (toInt64S_any _ xs2 _ hn2 (HR2.out.keep G3.out)).mono ?_
  rintro e w4 ⟨rfl, xb4, hg4⟩
  have x4_1 := hg4.keep X3_1.out
  have x4_2 := hg4.keep Xb3.out
  obtain ⟨_, _, _⟩ := cells3 x4_1
  have _ := fz x4_1
  have _ := ltb x4_1
  have _ := ltb x4_2
  have _ := ltb xb4
  have X4_1 := hid x4_1; clear x4_1
  have X4_2 := hid x4_2; clear x4_2
  have Xb4 := hid xb4; clear xb4
  have G4 := hid (G3.out.trans hg4)
  clear hg4
  go_wp2_with fail
  refine (HS.out _ _ _ _ _ (hid X4_2.out) (hid (RdI.of_block Xb4.out))).mono ?_
  rintro e w5 ⟨rfl, hg5⟩
  have x5_1 := hg5.keep X4_1.out
  have x5_2 := hg5.keep X4_2.out
  have x5_3 := hg5.keep Xb4.out
  obtain ⟨_, _, _⟩ := cells3 x5_1
  have _ := fz x5_1
  have _ := ltb x5_1
  have _ := ltb x5_2
  have _ := ltb x5_3
  have X5_1 := hid x5_1; clear x5_1
  have X5_2 := hid x5_2; clear x5_2
  have X5_3 := hid x5_3; clear x5_3
  have G5 := hid (G4.out.trans hg5)
  clear hg5
  go_wp2_with fail
  refine (toFracS_any _ xs1 _ hn1 (HR1.out.keep G5.out)).mono ?_
  rintro e w6 ⟨rfl, xb6, hg6⟩
  have x6_1 := hg6.keep X5_1.out
  have x6_2 := hg6.keep X5_2.out
  have x6_3 := hg6.keep X5_3.out
  obtain ⟨_, _, _⟩ := cells3 x6_1
  have _ := fz x6_1
  have _ := ltb x6_1
  have _ := ltb x6_2
  have _ := ltb x6_3
  have _ := ltb xb6
  have X6_1 := hid x6_1; clear x6_1
  have X6_2 := hid x6_2; clear x6_2
  have X6_3 := hid x6_3; clear x6_3
  have Xb6 := hid xb6; clear xb6
  have G6 := hid (G5.out.trans hg6)
  clear hg6
  go_wp2_with fail
  refine (toInt64S_any _ xs2 _ hn2 (HR2.out.keep G6.out)).mono ?_
  rintro e w7 ⟨rfl, xb7, hg7⟩
  have x7_1 := hg7.keep X6_1.out
  have x7_2 := hg7.keep X6_2.out
  have x7_3 := hg7.keep X6_3.out
  have x7_4 := hg7.keep Xb6.out
  obtain ⟨_, _, _⟩ := cells3 x7_1
  have _ := fz x7_1
  have _ := ltb x7_1
  have _ := ltb x7_2
  have _ := ltb x7_3
  have _ := ltb x7_4
  have _ := ltb xb7
  have X7_1 := hid x7_1; clear x7_1
  have X7_2 := hid x7_2; clear x7_2
  have X7_3 := hid x7_3; clear x7_3
  have X7_4 := hid x7_4; clear x7_4
  have Xb7 := hid xb7; clear xb7
  have G7 := hid (G6.out.trans hg7)
  clear hg7
  go_wp2_with fail
  refine (toGuess_any _ _ _ _).mono ?_
  rintro e w8 ⟨rfl, hg8⟩
  have x8_1 := hg8.keep X7_1.out
  have x8_2 := hg8.keep X7_2.out
  have x8_3 := hg8.keep X7_3.out
  have x8_4 := hg8.keep X7_4.out
  have x8_5 := hg8.keep Xb7.out
  obtain ⟨_, _, _⟩ := cells3 x8_1
  have _ := fz x8_1
  have _ := ltb x8_1
  have _ := ltb x8_2
  have _ := ltb x8_3
  have _ := ltb x8_4
  have _ := ltb x8_5
  have X8_1 := hid x8_1; clear x8_1
  have X8_2 := hid x8_2; clear x8_2
  have X8_3 := hid x8_3; clear x8_3
  have X8_4 := hid x8_4; clear x8_4
  have X8_5 := hid x8_5; clear x8_5
  have G8 := hid (G7.out.trans hg8)
  clear hg8
  go_wp2_with fail
  refine (HI.out _ _ _ _ _ (hid X8_4.out) (hid (RdI.of_block X8_5.out))).mono ?_
  rintro e w9 ⟨rfl, hg9⟩
  have x9_1 := hg9.keep X8_1.out
  have x9_2 := hg9.keep X8_2.out
  have x9_3 := hg9.keep X8_3.out
  have x9_4 := hg9.keep X8_4.out
  have x9_5 := hg9.keep X8_5.out
  obtain ⟨_, _, _⟩ := cells3 x9_1
  have _ := fz x9_1
  have _ := ltb x9_1
  have _ := ltb x9_2
  have _ := ltb x9_3
  have _ := ltb x9_4
  have _ := ltb x9_5
  have X9_1 := hid x9_1; clear x9_1
  have X9_2 := hid x9_2; clear x9_2
  have X9_3 := hid x9_3; clear x9_3
  have X9_4 := hid x9_4; clear x9_4
  have X9_5 := hid x9_5; clear x9_5
  have G9 := hid (G8.out.trans hg9)
  clear hg9
  go_wp2_with fail
  refine (toFracS_any _ xs1 _ hn1 (HR1.out.keep G9.out)).mono ?_
  rintro e w10 ⟨rfl, xb10, hg10⟩
  have x10_1 := hg10.keep X9_1.out
  have x10_2 := hg10.keep X9_2.out
  have x10_3 := hg10.keep X9_3.out
  have x10_4 := hg10.keep X9_4.out
  have x10_5 := hg10.keep X9_5.out
  obtain ⟨_, _, _⟩ := cells3 x10_1
  have _ := fz x10_1
  have _ := ltb x10_1
  have _ := ltb x10_2
  have _ := ltb x10_3
  have _ := ltb x10_4
  have _ := ltb x10_5
  have _ := ltb xb10
  have X10_1 := hid x10_1; clear x10_1
  have X10_2 := hid x10_2; clear x10_2
  have X10_3 := hid x10_3; clear x10_3
  have X10_4 := hid x10_4; clear x10_4
  have X10_5 := hid x10_5; clear x10_5
  have Xb10 := hid xb10; clear xb10
  have G10 := hid (G9.out.trans hg10)
  clear hg10
  go_wp2_with fail
  refine (eqFracS_any _ _ xs1 _ _ _ (hid X10_4.out) (hid Xb10.out) hn1).mono ?_
  rintro e w11 ⟨rfl, hg11⟩
  have x11_1 := hg11.keep X10_1.out
  have x11_2 := hg11.keep X10_2.out
  have x11_3 := hg11.keep X10_3.out
  have x11_4 := hg11.keep X10_4.out
  have x11_5 := hg11.keep X10_5.out
  have x11_6 := hg11.keep Xb10.out
  obtain ⟨_, _, _⟩ := cells3 x11_1
  have _ := fz x11_1
  have _ := ltb x11_1
  have _ := ltb x11_2
  have _ := ltb x11_3
  have _ := ltb x11_4
  have _ := ltb x11_5
  have _ := ltb x11_6
  have X11_1 := hid x11_1; clear x11_1
  have X11_2 := hid x11_2; clear x11_2
  have X11_3 := hid x11_3; clear x11_3
  have X11_4 := hid x11_4; clear x11_4
  have X11_5 := hid x11_5; clear x11_5
  have X11_6 := hid x11_6; clear x11_6
  have G11 := hid (G10.out.trans hg11)
  clear hg11
  go_wp2_with fail
  refine (toInt64S_any _ xs2 _ hn2 (HR2.out.keep G11.out)).mono ?_
  rintro e w12 ⟨rfl, xb12, hg12⟩
  have x12_1 := hg12.keep X11_1.out
  have x12_2 := hg12.keep X11_2.out
  have x12_3 := hg12.keep X11_3.out
  have x12_4 := hg12.keep X11_4.out
  have x12_5 := hg12.keep X11_5.out
  have x12_6 := hg12.keep X11_6.out
  obtain ⟨_, _, _⟩ := cells3 x12_1
  have _ := fz x12_1
  have _ := ltb x12_1
  have _ := ltb x12_2
  have _ := ltb x12_3
  have _ := ltb x12_4
  have _ := ltb x12_5
  have _ := ltb x12_6
  have _ := ltb xb12
  have X12_1 := hid x12_1; clear x12_1
  have X12_2 := hid x12_2; clear x12_2
  have X12_3 := hid x12_3; clear x12_3
  have X12_4 := hid x12_4; clear x12_4
  have X12_5 := hid x12_5; clear x12_5
  have X12_6 := hid x12_6; clear x12_6
  have Xb12 := hid xb12; clear xb12
  have G12 := hid (G11.out.trans hg12)
  clear hg12
  go_wp2_with fail
  refine (eqInt64S_any _ _ _ _ xs2 _ (hid (RdI.of_block X12_5.out)) (hid (RdI.of_block Xb12.out)) hn2).mono ?_
  rintro e w13 ⟨rfl, hg13⟩
  have x13_1 := hg13.keep X12_1.out
  have x13_2 := hg13.keep X12_2.out
  have x13_3 := hg13.keep X12_3.out
  have x13_4 := hg13.keep X12_4.out
  have x13_5 := hg13.keep X12_5.out
  have x13_6 := hg13.keep X12_6.out
  have x13_7 := hg13.keep Xb12.out
  obtain ⟨_, _, _⟩ := cells3 x13_1
  have _ := fz x13_1
  have _ := ltb x13_1
  have _ := ltb x13_2
  have _ := ltb x13_3
  have _ := ltb x13_4
  have _ := ltb x13_5
  have _ := ltb x13_6
  have _ := ltb x13_7
  have X13_1 := hid x13_1; clear x13_1
  have X13_2 := hid x13_2; clear x13_2
  have X13_3 := hid x13_3; clear x13_3
  have X13_4 := hid x13_4; clear x13_4
  have X13_5 := hid x13_5; clear x13_5
  have X13_6 := hid x13_6; clear x13_6
  have X13_7 := hid x13_7; clear x13_7
  have G13 := hid (G12.out.trans hg13)
  clear hg13
  go_wp2
  go_ret
  exact ⟨rfl, G13.out⟩

open Go.ChangeShapes Go.WideShapes Go.ChangeAt Go.Joins
theorem laidOutExplains : laidOutB Try.prog = true := by as_aux_lemma => kernel_rfl
set_option maxRecDepth 100000 in
theorem liftedExplains (os : Os) (started : os.Started) (H : Type) (enc : TypeId × Value → H) :
    ReturnsInHanded {} Try.checked os 13 .any (Rows.fnExactExplainsSpec.pre6 enc Try.prog Try.f13 Rows.fnExactExplainsRow.domain false) (Rows.fnExactExplainsSpec.post enc Try.prog Try.f13 false true false false) := by
  refine returnsInHanded_of_change (C := Try.checked) ownNone started (by kernel_rfl) Try.func13
    (ChangeSpec.witness6 (enc := enc) (C := Try.checked) false ⟨#[], #[gs 0 0 false, .slice none 0 0, .slice none 0 0], []⟩ 8 (by kernel_rfl) (by kernel_rfl) (by kernel_rfl) (by kernel_rfl)) ?_
  intro W base args ds gs before hval0 hW _ _
  have hval : ∀ (j : Nat) t v, Try.f13.params[j]? = some t → args[j]? = some v → Value.okWide Try.prog W .any base t v := hval0
  have hW' := hW
  obtain ⟨p, q, hA0, hV, rfl, _, _⟩ := hW
  have hA : DataW.TrodAll enc Try.prog W 0 (fun _ => true) true Try.f13.params.toList args.toList ds p := hA0
  rw [Try.params13] at hA hval
  obtain ⟨v0, v1, v2, d0, d1, d2, p_0, p_1, p_2, rfl, rfl, rfl, h0, h1, h2⟩ := trodAll_three hA
  obtain ⟨rfl, rfl⟩ := trodVars_none hV
  clear hA0 hval0
  obtain ⟨b0, u0, o0, rfl, rfl, rfl, wb0, wu0⟩ := open_guess (hval 0 92 v0 rfl rfl) h0
  simp only [List.append_nil, List.nil_append] at hW'
  have hlt : ∀ x ∈ p_1 ++ p_2, x.block < W.heap.size := fun x hx => by simpa using hW'.lt x (by simpa using hx)
  have hlt1 : ∀ x ∈ p_1, x.block < W.heap.size := fun x hx => hlt x (by simp [hx])
  have hlt2 : ∀ x ∈ p_2, x.block < W.heap.size := fun x hx => hlt x (by simp [hx])
  have done : ∀ (e : Ending) (W' : World), e = .returned (.bool true) ∧ Gr W W' → ∃ v, e = .returned v ∧ Rows.fnExactExplainsSpec.post enc Try.prog Try.f13 false true false false W #[gs b0 u0 o0, v1, v2] v W' := fun e W' ⟨he, hg⟩ => by
    subst he
    exact ⟨_, rfl, _, _, _, [], p_1 ++ p_2, [], hW', trodAll_mk1 (shut_bool Try.underlying4 _), (by have hta := trodAll_mk3 (shut_guess (o := o0) wb0 wu0) (Below.trod laidOutExplains (by kernel_rfl) (of_decide_eq_true (by kernel_rfl)) h1 hg.below hlt1) (Below.trod laidOutExplains (by kernel_rfl) (of_decide_eq_true (by kernel_rfl)) h2 hg.below hlt2); simp only [List.nil_append] at hta; exact hta), rfl, hg.below.frame _, fun h => by cases h⟩
  obtain ⟨A1, n1, cap1, rfl⟩ := okWide_slice Try.underlying22 (hval 1 22 v1 rfl rfl)
  obtain ⟨hmax1, xs1, rfl, hraw1⟩ := open_fracs h1
  obtain ⟨A2, n2, cap2, rfl⟩ := okWide_slice Try.underlying80 (hval 2 80 v2 rfl rfl)
  obtain ⟨hmax2, xs2, rfl, hraw2⟩ := open_rawI h2
  by_cases hn2 : xs2.length ≤ 1048576
  · by_cases hn1 : xs1.length ≤ 1048576
    · obtain ⟨R0, R1, hs, hi⟩ := bothExplains b0 u0 o0 xs1 xs2 hn1 hn2 (wf16 wb0) (wf16 wu0)
      exact (lawExplains b0 u0 o0 A1 cap1 xs1 A2 cap2 xs2 R0 R1 W hraw1 hn1 hraw2 hn2 hs hi).mono done
    · exact (lawExplains_big1 b0 u0 o0 A1 xs1.length cap1 A2 xs2.length cap2 W hn2 (by omega) hmax1).mono done
  · exact (lawExplains_big2 b0 u0 o0 A1 xs1.length cap1 A2 xs2.length cap2 W  (by omega) hmax2).mono done

set_option maxHeartbeats 2000000 in
theorem closedExplains : joinedFacts Try.pinned.checked.prog 13 Try.f13 Rows.fnExactExplainsSpec Rows.fnExactExplainsRow = true := by
  unfold joinedFacts
  refine Bool.and_eq_true_iff.2 ⟨?_, by as_aux_lemma => kernel_rfl⟩
  refine Bool.and_eq_true_iff.2 ⟨?_, by as_aux_lemma => kernel_rfl⟩
  refine Bool.and_eq_true_iff.2 ⟨?_, by as_aux_lemma => kernel_rfl⟩
  refine Bool.and_eq_true_iff.2 ⟨?_, by as_aux_lemma => kernel_rfl⟩
  refine Bool.and_eq_true_iff.2 ⟨?_, by rw [fact_make]; rfl⟩
  refine Bool.and_eq_true_iff.2 ⟨?_, by rw [fact_final]; rfl⟩
  refine Bool.and_eq_true_iff.2 ⟨?_, fact_enters⟩
  refine Bool.and_eq_true_iff.2 ⟨?_, by as_aux_lemma => kernel_rfl⟩
  refine Bool.and_eq_true_iff.2 ⟨?_, by as_aux_lemma => kernel_rfl⟩
  refine Bool.and_eq_true_iff.2 ⟨?_, by as_aux_lemma => kernel_rfl⟩
  refine Bool.and_eq_true_iff.2 ⟨?_, by as_aux_lemma => kernel_rfl⟩
  refine Bool.and_eq_true_iff.2 ⟨?_, by as_aux_lemma => kernel_rfl⟩
  refine Bool.and_eq_true_iff.2 ⟨?_, by as_aux_lemma => kernel_rfl⟩
  refine Bool.and_eq_true_iff.2 ⟨?_, by as_aux_lemma => kernel_rfl⟩
  refine Bool.and_eq_true_iff.2 ⟨?_, by as_aux_lemma => kernel_rfl⟩
  refine Bool.and_eq_true_iff.2 ⟨?_, by as_aux_lemma => kernel_rfl⟩
  refine Bool.and_eq_true_iff.2 ⟨?_, by as_aux_lemma => kernel_rfl⟩
  refine Bool.and_eq_true_iff.2 ⟨?_, by as_aux_lemma => kernel_rfl⟩
  refine Bool.and_eq_true_iff.2 ⟨?_, by as_aux_lemma => kernel_rfl⟩
  refine Bool.and_eq_true_iff.2 ⟨?_, by as_aux_lemma => kernel_rfl⟩
  refine Bool.and_eq_true_iff.2 ⟨?_, by as_aux_lemma => kernel_rfl⟩
  refine Bool.and_eq_true_iff.2 ⟨?_, by as_aux_lemma => kernel_rfl⟩
  refine Bool.and_eq_true_iff.2 ⟨?_, by as_aux_lemma => kernel_rfl⟩
  refine Bool.and_eq_true_iff.2 ⟨?_, by as_aux_lemma => kernel_rfl⟩
  refine Bool.and_eq_true_iff.2 ⟨?_, by as_aux_lemma => kernel_rfl⟩
  refine Bool.and_eq_true_iff.2 ⟨?_, by as_aux_lemma => kernel_rfl⟩
  refine Bool.and_eq_true_iff.2 ⟨?_, by as_aux_lemma => kernel_rfl⟩
  refine Bool.and_eq_true_iff.2 ⟨?_, by as_aux_lemma => kernel_rfl⟩
  refine Bool.and_eq_true_iff.2 ⟨?_, by as_aux_lemma => kernel_rfl⟩
  refine Bool.and_eq_true_iff.2 ⟨?_, by as_aux_lemma => kernel_rfl⟩
  as_aux_lemma => kernel_rfl
theorem explains_holds : Rows.FnExactExplainsSaid :=
  OpenClaim.holds_of_wide 13 Try.f13 rfl rfl rfl rfl rfl rfl rfl ⟨rfl, rfl, rfl, rfl, rfl⟩ rfl rfl rfl rfl rfl (by as_aux_lemma => kernel_rfl) Try.func13 closedExplains
    (of_decide_eq_true (by as_aux_lemma => kernel_rfl)) (by unfold Func.isWrapper; rw [if_neg (by decide +kernel)]; exact ⟨rfl, rfl⟩)
    (fun os started H enc _ => liftedExplains os started H enc)
#print axioms explains_holds
end Go.Proofs.Ytmjcnagniphkeaa
