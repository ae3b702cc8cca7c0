/- The law FnExactReadingSpan of the laws package returns true for every scale and all other arguments, valid or not; they read behind the call as before it. No condition. -/
import Derived.Test.YtnbdafecgccojaaRows
import Derived.Test.YtnbdafecgccojaaSkm
import Derived.Test.YtnbdafecgccojaaRs
import Derived.Test.YtnbdafecgccojaaReg
import Derived.Test.YtnbdafecgccojaaFacts
import Derived.ProofKit
import Derived.Carry
import Derived.Lib.SmallJoins
import Derived.Deep.RegionWith
import Derived.Deep.CutRange
namespace Go.Proofs.Ytnbdafecgccojaa
open Go.RowKit Go.Sort

set_option maxRecDepth 20000 in
set_option maxHeartbeats 4000000 in
theorem lawReadingSpan (a b : Int) (A : Option Addr) (cap : Nat) (xs : List (Int × Int)) (v0 : Int) (v1 : Bool) (v2 : Int) (v3 : Int) (R0 : Int) (R1 : Int) (R2 : Int) (R3 : Int) (R4 : Int) (w : World) (hr : RawF w (.slice A xs.length cap) xs) (hn : xs.length ≤ 1048576)
    (hs : ∀ (A : Option Addr) (c : Nat) (w : World), Hid (RdF w A xs) → Calls Try.prog 16 #[scl a b A xs.length c, vn v0 v1, fr v2 v3] w fun x w' => x = .returned (.tuple #[sp R0 R1 R2 R3, .int .i64 R4]) ∧ Gr w w')
    (hi : ∀ (A : Option Addr) (c : Nat) (w : World), Hid (RdF w A xs) → Calls Try.prog 20 #[scl a b A xs.length c, vn v0 v1, fr v2 v3] w fun x w' => x = .returned (.tuple #[sp R0 R1 R2 R3, .int .i64 R4]) ∧ Gr w w') :
    Calls Try.prog 3 #[scl a b A xs.length cap, vn v0 v1, fr v2 v3] w fun x w' => x = .returned (.bool true) ∧ Gr w w' := by
  have HS := hid hs; have HI := hid hi; have HR := hid hr
  clear hs hi hr
  go_enter Try.func3, Try.ntmps3
  go_wp2_with fail
  refine (szSc_yes _ _ _ _ _ _ _ (by omega) (by omega)).mono ?_
  rintro e w1 ⟨rfl, hg1⟩
  obtain ⟨x1_0, x1_1, x1_2, hz1, g1⟩ := alloc3 hg1
  obtain ⟨_, _, _⟩ := cells3 x1_0
  have _ := fz x1_0
  have _ := ltb x1_0
  obtain ⟨_, _⟩ := cells2 x1_1
  have _ := fz x1_1
  have _ := ltb x1_1
  obtain ⟨_, _⟩ := cells2 x1_2
  have _ := fz x1_2
  have _ := ltb x1_2
  have X1_0 := hid x1_0; clear x1_0
  have X1_1 := hid x1_1; clear x1_1
  have X1_2 := hid x1_2; clear x1_2
  have G1 := hid (g1)
  clear hg1 g1
  go_wp2_with fail
  refine wp_regG1s #[.int .i64 0, .int .i64 0, .int .i64 0, .int .i64 0] 12 1 20 10 8 11 26 [6, 7, 8, 9] [1, 6, 7, 8, 9, 10, 11] [0, 1, 2, 3, 4, 5, 10, 11] (fun g => scl a b (some ⟨g, 0, none⟩) xs.length xs.length) (.cells (flatA xs) 30) (by kernel_rfl) (by kernel_rfl) (by kernel_rfl) rfl rfl rfl rfl (by simp) rfl rfl (by decide) (fun _ _ => by kernel_rfl) (by kernel_rfl) ?_
  apply Exists.intro; apply Exists.intro; apply Exists.intro
  refine ⟨fun wb hb => ?_, ?_, fun g wb hb xg => ?_, ?_, ?_, fun g w2 b2 hg2 _ _ _ xb2 => ?_⟩
  · obtain ⟨_, _, _⟩ := hb.at3 X1_0.out
    obtain ⟨_, _⟩ := hb.at2 X1_1.out
    obtain ⟨_, _⟩ := hb.at2 X1_2.out
    simp only [headOps, List.contains, List.elem, Nat.reduceAdd, Nat.reduceBEq, reduceIte, Bool.false_eq_true, dumOp]
    repeat (first | go_big_quiet_step (first | (go_at_call 18; exact Calls.of_gr (toVernier_any _ _ _)) | (go_at_call 19; exact Calls.of_gr (toFrac_any _ _ _))) | quiet_step (fail))
    exact wpQuiet_nil rfl
  · intro o ho wb hb
    cases ho
    exact ⟨_, _, by kernel_rfl, toSc_any a b A cap xs wb hn (HR.out.keep (G1.out.trans hb))⟩
  · obtain ⟨_, _, _⟩ := hb.at3 X1_0.out
    obtain ⟨_, _⟩ := hb.at2 X1_1.out
    obtain ⟨_, _⟩ := hb.at2 X1_2.out
    simp only [headOps, List.contains, List.elem, Nat.reduceAdd, Nat.reduceBEq, reduceIte, Bool.false_eq_true, dumOp]
    repeat (first | go_big_quiet_step (first | (go_at_call 16; exact Calls.of_gr (HS.out _ _ _ (hid ((RdF.of_block xg).keep ⟨⟨_, _⟩, rfl⟩))))) | quiet_step (fail))
    exact wpQuiet_nil rfl
  · intro g; exact ⟨rfl, rfl⟩
  · exact ⟨rfl, by simp [Value.oneCell']⟩
  have GC := hid (G1.out.trans hg2)
  have B0 := hid (hg2.keep X1_0.out)
  have B1 := hid (hg2.keep X1_1.out)
  have B2 := hid (hg2.keep X1_2.out)
  have BR := hid xb2
  clear hg2 xb2
  obtain ⟨_, _, _⟩ := cells3 B0.out
  have _ := fz B0.out
  have _ := ltb B0.out
  obtain ⟨_, _⟩ := cells2 B1.out
  have _ := fz B1.out
  have _ := ltb B1.out
  obtain ⟨_, _⟩ := cells2 B2.out
  have _ := fz B2.out
  have _ := ltb B2.out
  obtain ⟨_, _, _, _⟩ := cells4 BR.out
  have _ := fz BR.out
  have _ := ltb BR.out
  go_wp2_with fail
  refine (toSc_any _ _ _ _ xs _ hn (HR.out.keep GC.out)).mono ?_
  rintro e w3 ⟨g3_, rfl, xb3, _, hg3⟩
  have x3_1 := hg3.keep B0.out
  have x3_2 := hg3.keep B1.out
  have x3_3 := hg3.keep B2.out
  have x3_4 := hg3.keep BR.out
  obtain ⟨_, _, _⟩ := cells3 x3_1
  have _ := fz x3_1
  have _ := ltb x3_1
  obtain ⟨_, _⟩ := cells2 x3_2
  have _ := fz x3_2
  have _ := ltb x3_2
  obtain ⟨_, _⟩ := cells2 x3_3
  have _ := fz x3_3
  have _ := ltb x3_3
  obtain ⟨_, _, _, _⟩ := cells4 x3_4
  have _ := fz x3_4
  have _ := ltb x3_4
  have _ := ltb xb3
  have X3_1 := hid x3_1; clear x3_1
  have X3_2 := hid x3_2; clear x3_2
  have X3_3 := hid x3_3; clear x3_3
  have X3_4 := hid x3_4; clear x3_4
  have Xb3 := hid xb3; clear xb3
  have G3 := hid (GC.out.trans hg3)
  clear hg3
  go_wp2_with fail
  refine wp_reg1s #[.int .i64 0, .int .i64 0, .int .i64 0, .int .i64 0] 11 9 11 10 37 (by kernel_rfl) (by kernel_rfl) rfl rfl (by simp) rfl rfl (by decide) (fun _ _ => by kernel_rfl) (by kernel_rfl) ?_
  apply Exists.intro; apply Exists.intro
  refine ⟨fun wb hb => ?_, ?_⟩
  · obtain ⟨_, _, _⟩ := hb.at3 (((Gr.refl _).al _).keep X3_1.out)
    obtain ⟨_, _⟩ := hb.at2 (((Gr.refl _).al _).keep X3_2.out)
    obtain ⟨_, _⟩ := hb.at2 (((Gr.refl _).al _).keep X3_3.out)
    obtain ⟨_, _, _, _⟩ := hb.at4 (((Gr.refl _).al _).keep X3_4.out)
    obtain ⟨_, _, _⟩ := hb.at3 (alloc1 (Gr.refl _)).1
    simp only [headOps, List.contains, List.elem, Nat.reduceAdd, Nat.reduceBEq, reduceIte, Bool.false_eq_true, dumOp]
    repeat (first | go_big_quiet_step (first | (go_at_call 18; exact Calls.of_gr (toVernier_any _ _ _)) | (go_at_call 19; exact Calls.of_gr (toFrac_any _ _ _)) | (go_at_call 20; exact Calls.of_gr (HI.out _ _ _ (hid ((RdF.of_block Xb3.out).keep (((Gr.alloc _ _).trans hb).trans ⟨⟨_, _⟩, rfl⟩)))))) | quiet_step (fail))
    exact wpQuiet_nil rfl
  refine ⟨rfl, ⟨rfl, by simp [Value.oneCell']⟩, fun w4 b4 hg4 _ xb4 => ?_⟩
  obtain ⟨x4_0, hz4, g4⟩ := alloc1 hg4
  have x4_1 := g4.keep X3_1.out
  have x4_2 := g4.keep X3_2.out
  have x4_3 := g4.keep X3_3.out
  have x4_4 := g4.keep X3_4.out
  have x4_5 := g4.keep Xb3.out
  obtain ⟨_, _, _⟩ := cells3 x4_1
  have _ := fz x4_1
  have _ := ltb x4_1
  obtain ⟨_, _⟩ := cells2 x4_2
  have _ := fz x4_2
  have _ := ltb x4_2
  obtain ⟨_, _⟩ := cells2 x4_3
  have _ := fz x4_3
  have _ := ltb x4_3
  obtain ⟨_, _, _, _⟩ := cells4 x4_4
  have _ := fz x4_4
  have _ := ltb x4_4
  have _ := ltb x4_5
  obtain ⟨_, _, _⟩ := cells3 x4_0
  have _ := fz x4_0
  have _ := ltb x4_0
  obtain ⟨_, _, _, _⟩ := cells4 xb4
  have _ := fz xb4
  have _ := ltb xb4
  have X4_1 := hid x4_1; clear x4_1
  have X4_2 := hid x4_2; clear x4_2
  have X4_3 := hid x4_3; clear x4_3
  have X4_4 := hid x4_4; clear x4_4
  have X4_5 := hid x4_5; clear x4_5
  have X4_0 := hid x4_0; clear x4_0
  have Xb4 := hid xb4; clear xb4
  have G4 := hid (G3.out.trans g4)
  clear hg4 g4
  go_wp2_with fail
  refine (eqSpan_any _ _ _ _ _).mono ?_
  rintro e w5 ⟨rfl, hg5⟩
  have x5_1 := hg5.keep X4_1.out
  have x5_2 := hg5.keep X4_2.out
  have x5_3 := hg5.keep X4_3.out
  have x5_4 := hg5.keep X4_4.out
  have x5_5 := hg5.keep X4_5.out
  have x5_6 := hg5.keep X4_0.out
  have x5_7 := hg5.keep Xb4.out
  obtain ⟨_, _, _⟩ := cells3 x5_1
  have _ := fz x5_1
  have _ := ltb x5_1
  obtain ⟨_, _⟩ := cells2 x5_2
  have _ := fz x5_2
  have _ := ltb x5_2
  obtain ⟨_, _⟩ := cells2 x5_3
  have _ := fz x5_3
  have _ := ltb x5_3
  obtain ⟨_, _, _, _⟩ := cells4 x5_4
  have _ := fz x5_4
  have _ := ltb x5_4
  have _ := ltb x5_5
  obtain ⟨_, _, _⟩ := cells3 x5_6
  have _ := fz x5_6
  have _ := ltb x5_6
  obtain ⟨_, _, _, _⟩ := cells4 x5_7
  have _ := fz x5_7
  have _ := ltb x5_7
  have X5_1 := hid x5_1; clear x5_1
  have X5_2 := hid x5_2; clear x5_2
  have X5_3 := hid x5_3; clear x5_3
  have X5_4 := hid x5_4; clear x5_4
  have X5_5 := hid x5_5; clear x5_5
  have X5_6 := hid x5_6; clear x5_6
  have X5_7 := hid x5_7; clear x5_7
  have G5 := hid (G4.out.trans hg5)
  clear hg5
  go_wp2_with fail
  go_region_with (first | (go_at_call 17; refine (toSc_any _ _ _ _ xs _ hn (HR.out.keep (G5.out.trans (Gr.drew _)))).mono ?_; rintro x wb ⟨gb, rfl, xb, _, hgb⟩; have XB := hid xb; have GB := hid ((Gr.drew _).trans hgb); have X60 := hid (GB.out.keep X5_6.out); have X63 := hid (GB.out.keep X5_5.out); obtain ⟨_, _, _⟩ := cells3 X60.out; clear xb hgb) | (go_at_call 22; refine (eqSc_any _ _ _ _ _ _ xs _ (hid (RdF.of_block X63.out)) (hid (RdF.of_block XB.out)) hn).mono ?_; rintro x wd ⟨rfl, hgd⟩; have GD := hid ((G5.out.trans GB.out).trans hgd); clear hgd))
  all_goals
    go_wp2
    go_ret
    exact ⟨rfl, GD.out⟩
set_option maxRecDepth 20000 in
set_option maxHeartbeats 400000 in
theorem lawReadingSpan_big (a b : Int) (A : Option Addr) (n cap : Nat) (v0 : Int) (v1 : Bool) (v2 : Int) (v3 : Int) (w : World) (h : 1048576 < n) (h2 : n ≤ 9223372036854775807) :
    Calls Try.prog 3 #[scl a b A n cap, vn v0 v1, fr v2 v3] w fun e w' => e = .returned (.bool true) ∧ Gr w w' := by
  go_enter Try.func3, Try.ntmps3
  go_wp2_with fail
  refine (szSc_no _ _ _ _ _ _ _ (by omega) h2 (by omega) (by omega)).mono ?_
  rintro e w1 ⟨rfl, hg1⟩
  obtain ⟨x1_0, x1_1, x1_2, hz1, g1⟩ := alloc3 hg1
  obtain ⟨_, _, _⟩ := cells3 x1_0
  have _ := fz x1_0
  have _ := ltb x1_0
  obtain ⟨_, _⟩ := cells2 x1_1
  have _ := fz x1_1
  have _ := ltb x1_1
  obtain ⟨_, _⟩ := cells2 x1_2
  have _ := fz x1_2
  have _ := ltb x1_2
  have X1_0 := hid x1_0; clear x1_0
  have X1_1 := hid x1_1; clear x1_1
  have X1_2 := hid x1_2; clear x1_2
  have G1 := hid (g1)
  clear hg1 g1
  go_wp2
  go_ret
  exact ⟨rfl, G1.out⟩

open Go.ChangeShapes Go.WideShapes Go.ChangeAt Go.Joins
theorem laidOutReadingSpan : laidOutB Try.prog = true := by as_aux_lemma => kernel_rfl
set_option maxRecDepth 100000 in
theorem liftedReadingSpan (os : Os) (started : os.Started) (H : Type) (enc : TypeId × Value → H) :
    ReturnsInHanded {} Try.checked os 3 .any (Rows.fnExactReadingSpanSpec.pre6 enc Try.prog Try.f3 Rows.fnExactReadingSpanRow.domain false) (Rows.fnExactReadingSpanSpec.post enc Try.prog Try.f3 false true false false) := by
  refine returnsInHanded_of_change (C := Try.checked) ownNone started (by kernel_rfl) Try.func3
    (ChangeSpec.witness6 (enc := enc) (C := Try.checked) false ⟨#[], #[.agg #[.int .i64 0, .int .i64 0, .slice none 0 0], .agg #[.int .i64 0, .bool false], .agg #[.int .i64 0, .int .i64 0]], []⟩ 8 (by kernel_rfl) (by kernel_rfl) (by kernel_rfl) (by kernel_rfl)) ?_
  intro W base args ds gs before hval0 hW _ _
  have hval : ∀ (j : Nat) t v, Try.f3.params[j]? = some t → args[j]? = some v → Value.okWide Try.prog W .any base t v := hval0
  have hW' := hW
  obtain ⟨p, q, hA0, hV, rfl, _, _⟩ := hW
  have hA : DataW.TrodAll enc Try.prog W 0 (fun _ => true) true Try.f3.params.toList args.toList ds p := hA0
  rw [Try.params3] at hA hval
  obtain ⟨u0, u1, u2, d0, d1, d2, p0, p1, p2, rfl, rfl, rfl, h0, h1, h2⟩ := trodAll_three hA
  obtain ⟨rfl, rfl⟩ := trodVars_none hV
  obtain ⟨v0, v1, rfl, rfl, rfl, wv0⟩ := open_vernier (hval 1 28 u1 rfl rfl) h1
  obtain ⟨v2, v3, rfl, rfl, rfl, wv2, wv3⟩ := open_frac (hval 2 23 u2 rfl rfl) h2
  clear hA0 hval0
  simp only [List.append_nil] at hW'
  have hlt : ∀ x ∈ p0, x.block < W.heap.size := fun x hx => by simpa using hW'.lt x hx
  have done : ∀ (e : Ending) (W' : World), e = .returned (.bool true) ∧ Gr W W' → ∃ v, e = .returned v ∧ Rows.fnExactReadingSpanSpec.post enc Try.prog Try.f3 false true false false W #[u0, vn v0 v1, fr v2 v3] v W' := fun e W' ⟨he, hg⟩ => by
    subst he
    exact ⟨_, rfl, _, _, _, [], p0, [], hW', trodAll_mk1 (shut_bool Try.underlying4 _), (by have hta := trodAll_mk3 (Below.trod laidOutReadingSpan (by kernel_rfl) (of_decide_eq_true (by kernel_rfl)) h0 hg.below hlt) (shut_vernier (b := v1) wv0) (shut_frac wv2 wv3); simp only [List.append_nil] at hta; exact hta), rfl, hg.below.frame _, fun h => by cases h⟩
  obtain ⟨a, b, A, n, cap, rfl, hmax, xs, rfl, hraw⟩ := open_scale (hval 0 26 u0 rfl rfl) h0
  by_cases hn : xs.length ≤ 1048576
  · obtain ⟨R0, R1, R2, R3, R4, hs, hi⟩ := bothReadingSpan a b xs v0 v1 v2 v3 hn
    exact (lawReadingSpan a b A cap xs v0 v1 v2 v3 R0 R1 R2 R3 R4 W hraw hn hs hi).mono done
  · exact (lawReadingSpan_big a b A xs.length cap v0 v1 v2 v3 W (by omega) hmax).mono done

set_option maxHeartbeats 2000000 in
theorem closedReadingSpan : joinedFacts Try.pinned.checked.prog 3 Try.f3 Rows.fnExactReadingSpanSpec Rows.fnExactReadingSpanRow = true := by
  unfold joinedFacts
  refine Bool.and_eq_true_iff.2 ⟨?_, by as_aux_lemma => kernel_rfl⟩
  refine Bool.and_eq_true_iff.2 ⟨?_, by as_aux_lemma => kernel_rfl⟩
  refine Bool.and_eq_true_iff.2 ⟨?_, by as_aux_lemma => kernel_rfl⟩
  refine Bool.and_eq_true_iff.2 ⟨?_, by as_aux_lemma => kernel_rfl⟩
  refine Bool.and_eq_true_iff.2 ⟨?_, by rw [fact_make]; rfl⟩
  refine Bool.and_eq_true_iff.2 ⟨?_, by rw [fact_final]; rfl⟩
  refine Bool.and_eq_true_iff.2 ⟨?_, fact_enters⟩
  refine Bool.and_eq_true_iff.2 ⟨?_, by as_aux_lemma => kernel_rfl⟩
  refine Bool.and_eq_true_iff.2 ⟨?_, by as_aux_lemma => kernel_rfl⟩
  refine Bool.and_eq_true_iff.2 ⟨?_, by as_aux_lemma => kernel_rfl⟩
  refine Bool.and_eq_true_iff.2 ⟨?_, by as_aux_lemma => kernel_rfl⟩
  refine Bool.and_eq_true_iff.2 ⟨?_, by as_aux_lemma => kernel_rfl⟩
  refine Bool.and_eq_true_iff.2 ⟨?_, by as_aux_lemma => kernel_rfl⟩
  refine Bool.and_eq_true_iff.2 ⟨?_, by as_aux_lemma => kernel_rfl⟩
  refine Bool.and_eq_true_iff.2 ⟨?_, by as_aux_lemma => kernel_rfl⟩
  refine Bool.and_eq_true_iff.2 ⟨?_, by as_aux_lemma => kernel_rfl⟩
  refine Bool.and_eq_true_iff.2 ⟨?_, by as_aux_lemma => kernel_rfl⟩
  refine Bool.and_eq_true_iff.2 ⟨?_, by as_aux_lemma => kernel_rfl⟩
  refine Bool.and_eq_true_iff.2 ⟨?_, by as_aux_lemma => kernel_rfl⟩
  refine Bool.and_eq_true_iff.2 ⟨?_, by as_aux_lemma => kernel_rfl⟩
  refine Bool.and_eq_true_iff.2 ⟨?_, by as_aux_lemma => kernel_rfl⟩
  refine Bool.and_eq_true_iff.2 ⟨?_, by as_aux_lemma => kernel_rfl⟩
  refine Bool.and_eq_true_iff.2 ⟨?_, by as_aux_lemma => kernel_rfl⟩
  refine Bool.and_eq_true_iff.2 ⟨?_, by as_aux_lemma => kernel_rfl⟩
  refine Bool.and_eq_true_iff.2 ⟨?_, by as_aux_lemma => kernel_rfl⟩
  refine Bool.and_eq_true_iff.2 ⟨?_, by as_aux_lemma => kernel_rfl⟩
  refine Bool.and_eq_true_iff.2 ⟨?_, by as_aux_lemma => kernel_rfl⟩
  refine Bool.and_eq_true_iff.2 ⟨?_, by as_aux_lemma => kernel_rfl⟩
  refine Bool.and_eq_true_iff.2 ⟨?_, by as_aux_lemma => kernel_rfl⟩
  refine Bool.and_eq_true_iff.2 ⟨?_, by as_aux_lemma => kernel_rfl⟩
  as_aux_lemma => kernel_rfl
theorem readingSpan_holds : Rows.FnExactReadingSpanSaid :=
  OpenClaim.holds_of_wide 3 Try.f3 rfl rfl rfl rfl rfl rfl rfl ⟨rfl, rfl, rfl, rfl, rfl⟩ rfl rfl rfl rfl rfl (by as_aux_lemma => kernel_rfl) Try.func3 closedReadingSpan
    (of_decide_eq_true (by as_aux_lemma => kernel_rfl)) (by unfold Func.isWrapper; rw [if_neg (by decide +kernel)]; exact ⟨rfl, rfl⟩)
    (fun os started H enc _ => liftedReadingSpan os started H enc)
#print axioms readingSpan_holds
end Go.Proofs.Ytnbdafecgccojaa
