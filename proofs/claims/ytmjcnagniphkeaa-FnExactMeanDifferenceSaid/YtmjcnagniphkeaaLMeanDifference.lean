/- The law FnExactMeanDifference of the laws package returns true for all arguments, valid or not; each argument reads behind the call as before it. No condition. -/
import Derived.Test.YtmjcnagniphkeaaRows
import Derived.Test.YtmjcnagniphkeaaPd
import Derived.Test.YtmjcnagniphkeaaRd
import Derived.Test.YtmjcnagniphkeaaRj
import Derived.Test.YtmjcnagniphkeaaRf
import Derived.Test.YtmjcnagniphkeaaFacts
import Derived.ProofKit
import Derived.Carry
import Derived.Lib.SmallJoins
namespace Go.Proofs.Ytmjcnagniphkeaa
open Go.RowKit Go.Sort

set_option maxRecDepth 20000 in
set_option maxHeartbeats 400000 in
theorem lawMeanDifference_big0 (A0 : Option Addr) (n0 cap0 : Nat) (A1 : Option Addr) (n1 cap1 : Nat) (w : World) (h : 1048576 < n0) (h2 : n0 ≤ 9223372036854775807) :
    Calls Try.prog 14 #[.slice A0 n0 cap0, .slice A1 n1 cap1] w fun e w' => e = .returned (.bool true) ∧ Gr w w' := by
  go_enter Try.func14, Try.ntmps14
  go_wp2
  go_ret
  exact ⟨rfl, Gr.refl _⟩
set_option maxRecDepth 20000 in
set_option maxHeartbeats 400000 in
theorem lawMeanDifference_big1 (A0 : Option Addr) (n0 cap0 : Nat) (A1 : Option Addr) (n1 cap1 : Nat) (w : World) (h0 : n0 ≤ 1048576) (h : 1048576 < n1) (h2 : n1 ≤ 9223372036854775807) :
    Calls Try.prog 14 #[.slice A0 n0 cap0, .slice A1 n1 cap1] w fun e w' => e = .returned (.bool true) ∧ Gr w w' := by
  go_enter Try.func14, Try.ntmps14
  go_wp2
  go_ret
  exact ⟨rfl, Gr.refl _⟩
set_option maxRecDepth 20000 in
set_option maxHeartbeats 2000000 in
theorem lawMeanDifference (A0 : Option Addr) (cap0 : Nat) (xs0 : List (Int)) (A1 : Option Addr) (cap1 : Nat) (xs1 : List (Int)) (P0 : Int) (Q0 : Int) (R1 : Int) (w : World) (hr0 : RawI w (.slice A0 xs0.length cap0) xs0) (hn0 : xs0.length ≤ 1048576) (hr1 : RawI w (.slice A1 xs1.length cap1) xs1) (hn1 : xs1.length ≤ 1048576)
    (hs : ∀ (B0 : Option Addr) (c0 : Nat) (B1 : Option Addr) (c1 : Nat) (w : World), Hid (RdI w B0 xs0) → Hid (RdI w B1 xs1) → Calls Try.prog 61 #[.slice B0 xs0.length c0, .slice B1 xs1.length c1] w fun e w' => e = .returned (.tuple #[fr P0 Q0, .int .i64 R1]) ∧ Gr w w')
    (hi : ∀ (B0 : Option Addr) (c0 : Nat) (B1 : Option Addr) (c1 : Nat) (w : World), Hid (RdI w B0 xs0) → Hid (RdI w B1 xs1) → Calls Try.prog 62 #[.slice B0 xs0.length c0, .slice B1 xs1.length c1] w fun e w' => e = .returned (.tuple #[fr P0 Q0, .int .i64 R1]) ∧ Gr w w') :
    Calls Try.prog 14 #[.slice A0 xs0.length cap0, .slice A1 xs1.length cap1] w fun e w' => e = .returned (.bool true) ∧ Gr w w' := by
  have HS := hid hs; have HI := hid hi; have HR0 := hid hr0; have HR1 := hid hr1
  clear hs hi hr0 hr1
  go_enter Try.func14, Try.ntmps14
  go_wp2_with fail
  refine (toInt64S_any _ xs0 _ hn0 (HR0.out.keep (Gr.refl w))).mono ?_
  rintro e w1 ⟨rfl, xb1, hg1⟩
  have _ := ltb xb1
  have Xb1 := hid xb1; clear xb1
  have G1 := hid (hg1)
  clear hg1
  go_wp2_with fail
  refine (toInt64S_any _ xs1 _ hn1 (HR1.out.keep G1.out)).mono ?_
  rintro e w2 ⟨rfl, xb2, hg2⟩
  have x2_1 := hg2.keep Xb1.out
  have _ := ltb x2_1
  have _ := ltb xb2
  have X2_1 := hid x2_1; clear x2_1
  have Xb2 := hid xb2; clear xb2
  have G2 := hid (G1.out.trans hg2)
  clear hg2
  go_wp2_with fail
  refine (HS.out _ _ _ _ _ (hid (RdI.of_block X2_1.out)) (hid (RdI.of_block Xb2.out))).mono ?_
  rintro e w3 ⟨rfl, hg3⟩
  have x3_1 := hg3.keep X2_1.out
  have x3_2 := hg3.keep Xb2.out
  have _ := ltb x3_1
  have _ := ltb x3_2
  have X3_1 := hid x3_1; clear x3_1
  have X3_2 := hid x3_2; clear x3_2
  have G3 := hid (G2.out.trans hg3)
  clear hg3
  go_wp2_with fail
  refine (toInt64S_any _ xs0 _ hn0 (HR0.out.keep (G3.out.al _))).mono ?_
  rintro e w4 ⟨rfl, xb4, hg4⟩
  obtain ⟨x4_0, hz4, g4⟩ := alloc1 hg4
  have x4_1 := g4.keep X3_1.out
  have x4_2 := g4.keep X3_2.out
  have _ := ltb x4_1
  have _ := ltb x4_2
  obtain ⟨_, _⟩ := cells2 x4_0
  have _ := fz x4_0
  have _ := ltb x4_0
  have _ := ltb xb4
  have X4_1 := hid x4_1; clear x4_1
  have X4_2 := hid x4_2; clear x4_2
  have X4_0 := hid x4_0; clear x4_0
  have Xb4 := hid xb4; clear xb4
  have G4 := hid (G3.out.trans g4)
  clear hg4 g4
  have Xb4 := hid (al_at Xb4.out)
  go_wp2_with fail
  refine (toInt64S_any _ xs1 _ hn1 (HR1.out.keep G4.out)).mono ?_
  rintro e w5 ⟨rfl, xb5, hg5⟩
  have x5_1 := hg5.keep X4_1.out
  have x5_2 := hg5.keep X4_2.out
  have x5_3 := hg5.keep X4_0.out
  have x5_4 := hg5.keep Xb4.out
  have _ := ltb x5_1
  have _ := ltb x5_2
  obtain ⟨_, _⟩ := cells2 x5_3
  have _ := fz x5_3
  have _ := ltb x5_3
  have _ := ltb x5_4
  have _ := ltb xb5
  have X5_1 := hid x5_1; clear x5_1
  have X5_2 := hid x5_2; clear x5_2
  have X5_3 := hid x5_3; clear x5_3
  have X5_4 := hid x5_4; clear x5_4
  have Xb5 := hid xb5; clear xb5
  have G5 := hid (G4.out.trans hg5)
  clear hg5
  go_wp2_with fail
  refine (HI.out _ _ _ _ _ (hid (RdI.of_block X5_4.out)) (hid (RdI.of_block Xb5.out))).mono ?_
  rintro e w6 ⟨rfl, hg6⟩
  have x6_1 := hg6.keep X5_1.out
  have x6_2 := hg6.keep X5_2.out
  have x6_3 := hg6.keep X5_3.out
  have x6_4 := hg6.keep X5_4.out
  have x6_5 := hg6.keep Xb5.out
  have _ := ltb x6_1
  have _ := ltb x6_2
  obtain ⟨_, _⟩ := cells2 x6_3
  have _ := fz x6_3
  have _ := ltb x6_3
  have _ := ltb x6_4
  have _ := ltb x6_5
  have X6_1 := hid x6_1; clear x6_1
  have X6_2 := hid x6_2; clear x6_2
  have X6_3 := hid x6_3; clear x6_3
  have X6_4 := hid x6_4; clear x6_4
  have X6_5 := hid x6_5; clear x6_5
  have G6 := hid (G5.out.trans hg6)
  clear hg6
  go_wp2_with fail
  refine (eqFrac_any _ _ _).mono ?_
  rintro e w7 ⟨rfl, hg7⟩
  obtain ⟨x7_0, hz7, g7⟩ := alloc1 hg7
  have x7_1 := g7.keep X6_1.out
  have x7_2 := g7.keep X6_2.out
  have x7_3 := g7.keep X6_3.out
  have x7_4 := g7.keep X6_4.out
  have x7_5 := g7.keep X6_5.out
  have _ := ltb x7_1
  have _ := ltb x7_2
  obtain ⟨_, _⟩ := cells2 x7_3
  have _ := fz x7_3
  have _ := ltb x7_3
  have _ := ltb x7_4
  have _ := ltb x7_5
  obtain ⟨_, _⟩ := cells2 x7_0
  have _ := fz x7_0
  have _ := ltb x7_0
  have X7_1 := hid x7_1; clear x7_1
  have X7_2 := hid x7_2; clear x7_2
  have X7_3 := hid x7_3; clear x7_3
  have X7_4 := hid x7_4; clear x7_4
  have X7_5 := hid x7_5; clear x7_5
  have X7_0 := hid x7_0; clear x7_0
  have G7 := hid (G6.out.trans g7)
  clear hg7 g7
  go_wp2_with fail
  refine (toInt64S_any _ xs0 _ hn0 (HR0.out.keep G7.out)).mono ?_
  rintro e w8 ⟨rfl, xb8, hg8⟩
  have x8_1 := hg8.keep X7_1.out
  have x8_2 := hg8.keep X7_2.out
  have x8_3 := hg8.keep X7_3.out
  have x8_4 := hg8.keep X7_4.out
  have x8_5 := hg8.keep X7_5.out
  have x8_6 := hg8.keep X7_0.out
  have _ := ltb x8_1
  have _ := ltb x8_2
  obtain ⟨_, _⟩ := cells2 x8_3
  have _ := fz x8_3
  have _ := ltb x8_3
  have _ := ltb x8_4
  have _ := ltb x8_5
  obtain ⟨_, _⟩ := cells2 x8_6
  have _ := fz x8_6
  have _ := ltb x8_6
  have _ := ltb xb8
  have X8_1 := hid x8_1; clear x8_1
  have X8_2 := hid x8_2; clear x8_2
  have X8_3 := hid x8_3; clear x8_3
  have X8_4 := hid x8_4; clear x8_4
  have X8_5 := hid x8_5; clear x8_5
  have X8_6 := hid x8_6; clear x8_6
  have Xb8 := hid xb8; clear xb8
  have G8 := hid (G7.out.trans hg8)
  clear hg8
  go_wp2_with fail
  refine (eqInt64S_any _ _ _ _ xs0 _ (hid (RdI.of_block X8_4.out)) (hid (RdI.of_block Xb8.out)) hn0).mono ?_
  rintro e w9 ⟨rfl, hg9⟩
  have x9_1 := hg9.keep X8_1.out
  have x9_2 := hg9.keep X8_2.out
  have x9_3 := hg9.keep X8_3.out
  have x9_4 := hg9.keep X8_4.out
  have x9_5 := hg9.keep X8_5.out
  have x9_6 := hg9.keep X8_6.out
  have x9_7 := hg9.keep Xb8.out
  have _ := ltb x9_1
  have _ := ltb x9_2
  obtain ⟨_, _⟩ := cells2 x9_3
  have _ := fz x9_3
  have _ := ltb x9_3
  have _ := ltb x9_4
  have _ := ltb x9_5
  obtain ⟨_, _⟩ := cells2 x9_6
  have _ := fz x9_6
  have _ := ltb x9_6
  have _ := ltb x9_7
  have X9_1 := hid x9_1; clear x9_1
  have X9_2 := hid x9_2; clear x9_2
  have X9_3 := hid x9_3; clear x9_3
  have X9_4 := hid x9_4; clear x9_4
  have X9_5 := hid x9_5; clear x9_5
  have X9_6 := hid x9_6; clear x9_6
  have X9_7 := hid x9_7; clear x9_7
  have G9 := hid (G8.out.trans hg9)
  clear hg9
  go_wp2_with fail
  refine (toInt64S_any _ xs1 _ hn1 (HR1.out.keep G9.out)).mono ?_
  rintro e w10 ⟨rfl, xb10, hg10⟩
  have x10_1 := hg10.keep X9_1.out
  have x10_2 := hg10.keep X9_2.out
  have x10_3 := hg10.keep X9_3.out
  have x10_4 := hg10.keep X9_4.out
  have x10_5 := hg10.keep X9_5.out
  have x10_6 := hg10.keep X9_6.out
  have x10_7 := hg10.keep X9_7.out
  have _ := ltb x10_1
  have _ := ltb x10_2
  obtain ⟨_, _⟩ := cells2 x10_3
  have _ := fz x10_3
  have _ := ltb x10_3
  have _ := ltb x10_4
  have _ := ltb x10_5
  obtain ⟨_, _⟩ := cells2 x10_6
  have _ := fz x10_6
  have _ := ltb x10_6
  have _ := ltb x10_7
  have _ := ltb xb10
  have X10_1 := hid x10_1; clear x10_1
  have X10_2 := hid x10_2; clear x10_2
  have X10_3 := hid x10_3; clear x10_3
  have X10_4 := hid x10_4; clear x10_4
  have X10_5 := hid x10_5; clear x10_5
  have X10_6 := hid x10_6; clear x10_6
  have X10_7 := hid x10_7; clear x10_7
  have Xb10 := hid xb10; clear xb10
  have G10 := hid (G9.out.trans hg10)
  clear hg10
  go_wp2_with fail
  refine (eqInt64S_any _ _ _ _ xs1 _ (hid (RdI.of_block X10_5.out)) (hid (RdI.of_block Xb10.out)) hn1).mono ?_
  rintro e w11 ⟨rfl, hg11⟩
  have x11_1 := hg11.keep X10_1.out
  have x11_2 := hg11.keep X10_2.out
  have x11_3 := hg11.keep X10_3.out
  have x11_4 := hg11.keep X10_4.out
  have x11_5 := hg11.keep X10_5.out
  have x11_6 := hg11.keep X10_6.out
  have x11_7 := hg11.keep X10_7.out
  have x11_8 := hg11.keep Xb10.out
  have _ := ltb x11_1
  have _ := ltb x11_2
  obtain ⟨_, _⟩ := cells2 x11_3
  have _ := fz x11_3
  have _ := ltb x11_3
  have _ := ltb x11_4
  have _ := ltb x11_5
  obtain ⟨_, _⟩ := cells2 x11_6
  have _ := fz x11_6
  have _ := ltb x11_6
  have _ := ltb x11_7
  have _ := ltb x11_8
  have X11_1 := hid x11_1; clear x11_1
  have X11_2 := hid x11_2; clear x11_2
  have X11_3 := hid x11_3; clear x11_3
  have X11_4 := hid x11_4; clear x11_4
  have X11_5 := hid x11_5; clear x11_5
  have X11_6 := hid x11_6; clear x11_6
  have X11_7 := hid x11_7; clear x11_7
  have X11_8 := hid x11_8; clear x11_8
  have G11 := hid (G10.out.trans hg11)
  clear hg11
  go_wp2
  go_ret
  exact ⟨rfl, G11.out⟩

open Go.ChangeShapes Go.WideShapes Go.ChangeAt Go.Joins
theorem laidOutMeanDifference : laidOutB Try.prog = true := by as_aux_lemma => kernel_rfl
set_option maxRecDepth 100000 in
theorem liftedMeanDifference (os : Os) (started : os.Started) (H : Type) (enc : TypeId × Value → H) :
    ReturnsInHanded {} Try.checked os 14 .any (Rows.fnExactMeanDifferenceSpec.pre6 enc Try.prog Try.f14 Rows.fnExactMeanDifferenceRow.domain false) (Rows.fnExactMeanDifferenceSpec.post enc Try.prog Try.f14 false true false false) := by
  refine returnsInHanded_of_change (C := Try.checked) ownNone started (by kernel_rfl) Try.func14
    (ChangeSpec.witness6 (enc := enc) (C := Try.checked) false ⟨#[], #[.slice none 0 0, .slice none 0 0], []⟩ 8 (by kernel_rfl) (by kernel_rfl) (by kernel_rfl) (by kernel_rfl)) ?_
  intro W base args ds gs before hval0 hW _ _
  have hval : ∀ (j : Nat) t v, Try.f14.params[j]? = some t → args[j]? = some v → Value.okWide Try.prog W .any base t v := hval0
  have hW' := hW
  obtain ⟨p, q, hA0, hV, rfl, _, _⟩ := hW
  have hA : DataW.TrodAll enc Try.prog W 0 (fun _ => true) true Try.f14.params.toList args.toList ds p := hA0
  rw [Try.params14] at hA hval
  obtain ⟨v0, v1, d0, d1, p_0, p_1, rfl, rfl, rfl, h0, h1⟩ := trodAll_two hA
  obtain ⟨rfl, rfl⟩ := trodVars_none hV
  clear hA0 hval0
  simp only [List.append_nil] at hW'
  have hlt : ∀ x ∈ p_0 ++ p_1, x.block < W.heap.size := fun x hx => by simpa using hW'.lt x (by simpa using hx)
  have hlt0 : ∀ x ∈ p_0, x.block < W.heap.size := fun x hx => hlt x (by simp [hx])
  have hlt1 : ∀ x ∈ p_1, x.block < W.heap.size := fun x hx => hlt x (by simp [hx])
  have done : ∀ (e : Ending) (W' : World), e = .returned (.bool true) ∧ Gr W W' → ∃ v, e = .returned v ∧ Rows.fnExactMeanDifferenceSpec.post enc Try.prog Try.f14 false true false false W #[v0, v1] v W' := fun e W' ⟨he, hg⟩ => by
    subst he
    exact ⟨_, rfl, _, _, _, [], p_0 ++ p_1, [], hW', trodAll_mk1 (shut_bool Try.underlying4 _), trodAll_mk2 (Below.trod laidOutMeanDifference (by kernel_rfl) (of_decide_eq_true (by kernel_rfl)) h0 hg.below hlt0) (Below.trod laidOutMeanDifference (by kernel_rfl) (of_decide_eq_true (by kernel_rfl)) h1 hg.below hlt1), rfl, hg.below.frame _, fun h => by cases h⟩
  obtain ⟨A0, n0, cap0, rfl⟩ := okWide_slice Try.underlying80 (hval 0 80 v0 rfl rfl)
  obtain ⟨hmax0, xs0, rfl, hraw0⟩ := open_rawI h0
  obtain ⟨A1, n1, cap1, rfl⟩ := okWide_slice Try.underlying80 (hval 1 80 v1 rfl rfl)
  obtain ⟨hmax1, xs1, rfl, hraw1⟩ := open_rawI h1
  by_cases hn0 : xs0.length ≤ 1048576
  · by_cases hn1 : xs1.length ≤ 1048576
    · obtain ⟨P0, Q0, R1, hs, hi⟩ := bothMeanDifference xs0 xs1 hn0 hn1
      exact (lawMeanDifference A0 cap0 xs0 A1 cap1 xs1 P0 Q0 R1 W hraw0 hn0 hraw1 hn1 hs hi).mono done
    · exact (lawMeanDifference_big1 A0 xs0.length cap0 A1 xs1.length cap1 W hn0 (by omega) hmax1).mono done
  · exact (lawMeanDifference_big0 A0 xs0.length cap0 A1 xs1.length cap1 W  (by omega) hmax0).mono done

set_option maxHeartbeats 2000000 in
theorem closedMeanDifference : joinedFacts Try.pinned.checked.prog 14 Try.f14 Rows.fnExactMeanDifferenceSpec Rows.fnExactMeanDifferenceRow = true := by
  unfold joinedFacts
  refine Bool.and_eq_true_iff.2 ⟨?_, by as_aux_lemma => kernel_rfl⟩
  refine Bool.and_eq_true_iff.2 ⟨?_, by as_aux_lemma => kernel_rfl⟩
  refine Bool.and_eq_true_iff.2 ⟨?_, by as_aux_lemma => kernel_rfl⟩
  refine Bool.and_eq_true_iff.2 ⟨?_, by as_aux_lemma => kernel_rfl⟩
  refine Bool.and_eq_true_iff.2 ⟨?_, by rw [fact_make]; rfl⟩
  refine Bool.and_eq_true_iff.2 ⟨?_, by rw [fact_final]; rfl⟩
  refine Bool.and_eq_true_iff.2 ⟨?_, fact_enters⟩
  refine Bool.and_eq_true_iff.2 ⟨?_, by as_aux_lemma => kernel_rfl⟩
  refine Bool.and_eq_true_iff.2 ⟨?_, by as_aux_lemma => kernel_rfl⟩
  refine Bool.and_eq_true_iff.2 ⟨?_, by as_aux_lemma => kernel_rfl⟩
  refine Bool.and_eq_true_iff.2 ⟨?_, by as_aux_lemma => kernel_rfl⟩
  refine Bool.and_eq_true_iff.2 ⟨?_, by as_aux_lemma => kernel_rfl⟩
  refine Bool.and_eq_true_iff.2 ⟨?_, by as_aux_lemma => kernel_rfl⟩
  refine Bool.and_eq_true_iff.2 ⟨?_, by as_aux_lemma => kernel_rfl⟩
  refine Bool.and_eq_true_iff.2 ⟨?_, by as_aux_lemma => kernel_rfl⟩
  refine Bool.and_eq_true_iff.2 ⟨?_, by as_aux_lemma => kernel_rfl⟩
  refine Bool.and_eq_true_iff.2 ⟨?_, by as_aux_lemma => kernel_rfl⟩
  refine Bool.and_eq_true_iff.2 ⟨?_, by as_aux_lemma => kernel_rfl⟩
  refine Bool.and_eq_true_iff.2 ⟨?_, by as_aux_lemma => kernel_rfl⟩
  refine Bool.and_eq_true_iff.2 ⟨?_, by as_aux_lemma => kernel_rfl⟩
  refine Bool.and_eq_true_iff.2 ⟨?_, by as_aux_lemma => kernel_rfl⟩
  refine Bool.and_eq_true_iff.2 ⟨?_, by as_aux_lemma => kernel_rfl⟩
  refine Bool.and_eq_true_iff.2 ⟨?_, by as_aux_lemma => kernel_rfl⟩
  refine Bool.and_eq_true_iff.2 ⟨?_, by as_aux_lemma => kernel_rfl⟩
  refine Bool.and_eq_true_iff.2 ⟨?_, by as_aux_lemma => kernel_rfl⟩
  refine Bool.and_eq_true_iff.2 ⟨?_, by as_aux_lemma => kernel_rfl⟩
  refine Bool.and_eq_true_iff.2 ⟨?_, by as_aux_lemma => kernel_rfl⟩
  refine Bool.and_eq_true_iff.2 ⟨?_, by as_aux_lemma => kernel_rfl⟩
  refine Bool.and_eq_true_iff.2 ⟨?_, by as_aux_lemma => kernel_rfl⟩
  refine Bool.and_eq_true_iff.2 ⟨?_, by as_aux_lemma => kernel_rfl⟩
  as_aux_lemma => kernel_rfl
theorem meanDifference_holds : Rows.FnExactMeanDifferenceSaid :=
  OpenClaim.holds_of_wide 14 Try.f14 rfl rfl rfl rfl rfl rfl rfl ⟨rfl, rfl, rfl, rfl, rfl⟩ rfl rfl rfl rfl rfl (by as_aux_lemma => kernel_rfl) Try.func14 closedMeanDifference
    (of_decide_eq_true (by as_aux_lemma => kernel_rfl)) (by unfold Func.isWrapper; rw [if_neg (by decide +kernel)]; exact ⟨rfl, rfl⟩)
    (fun os started H enc _ => liftedMeanDifference os started H enc)
#print axioms meanDifference_holds
end Go.Proofs.Ytmjcnagniphkeaa
