/- The law FnExactSquaresOf of the laws package returns true for every table and every slice of fractions, valid or not; they read behind the call as before it. No condition. -/
import Derived.Test.YtjhlpaeenjbljaaRows
import Derived.Test.YtjhlpaeenjbljaaUf
import Derived.Test.YtjhlpaeenjbljaaOb
import Derived.Test.YtjhlpaeenjbljaaRo
import Derived.Test.YtjhlpaeenjbljaaRs
import Derived.Test.YtjhlpaeenjbljaaFacts
import Derived.ProofKit
import Derived.Carry
import Derived.Deep.RegionWith
import Derived.Lib.SmallJoins
namespace Go.Proofs.Ytjhlpaeenjbljaa
open Go.RowKit Go.Sort

set_option maxRecDepth 20000 in
set_option maxHeartbeats 4000000 in
theorem lawSquaresOf (n : Int) (A B : Option Addr) (cap capB : Nat) (b : Bool) (p q : Int) (xs : List Obv) (ys : List (Int × Int)) (P0 Q0 : Int) (R1 : Int) (w : World) (hr : RawO w (.slice A xs.length cap) xs) (hrB : RawF w (.slice B ys.length capB) ys) (hxy : xs.length + ys.length ≤ 1048576)
    (hs : ∀ (g : Nat) (A : Option Addr) (c d : Nat) (w : World), xs.length ≤ c → ys.length ≤ d → Hid (RdO w (some ⟨g, 0, none⟩) xs) → Hid (RdF w A ys) → Calls Try.prog 33 #[tbl n (some ⟨g, 0, none⟩) xs.length c b p q, .slice A ys.length d] w fun x w' => x = .returned (.tuple #[fr P0 Q0, .int .i64 R1]) ∧ Gr w w')
    (hi : ∀ (g : Nat) (A : Option Addr) (c d : Nat) (w : World), xs.length ≤ c → ys.length ≤ d → Hid (RdO w (some ⟨g, 0, none⟩) xs) → Hid (RdF w A ys) → Calls Try.prog 34 #[tbl n (some ⟨g, 0, none⟩) xs.length c b p q, .slice A ys.length d] w fun x w' => x = .returned (.tuple #[fr P0 Q0, .int .i64 R1]) ∧ Gr w w') :
    Calls Try.prog 6 #[tbl n A xs.length cap b p q, .slice B ys.length capB] w fun x w' => x = .returned (.bool true) ∧ Gr w w' := by
  have HS := hid hs; have HI := hid hi; have HR := hid hr; have HRB := hid hrB
  have hn : xs.length ≤ 1048576 := by omega
  have hn2 : ys.length ≤ 1048576 := by omega
  have HSZ := hid fun (w : World) => (szF B ys.length capB (1048576 - (xs.length : Int)) w (by omega) (by omega) (by omega)).mono (R' := fun e w' => e = .returned (.int .i64 (1048576 - (xs.length : Int) - (ys.length : Int))) ∧ Gr w w') fun e w' h => ⟨by rw [h.1, if_pos (by omega)], h.2⟩
  clear hs hi hr hrB
  go_enter Try.func6, Try.ntmps6
  go_wp2_with fail
  refine (szTb_yes _ _ _ _ _ _ _ _ _ (by omega) (by omega)).mono ?_
  rintro e w1 ⟨rfl, hg1⟩
  obtain ⟨x1_0, hz1, g1⟩ := alloc1 hg1
  obtain ⟨_, _, _, _, _⟩ := cells5 x1_0
  have _ := fz x1_0
  have _ := ltb x1_0
  have X1_0 := hid x1_0; clear x1_0
  have G1 := hid (g1)
  clear hg1 g1
  go_wp2_with fail
  refine (HSZ.out _).mono ?_
  rintro e w2 ⟨rfl, hg2⟩
  have x2_1 := hg2.keep X1_0.out
  obtain ⟨_, _, _, _, _⟩ := cells5 x2_1
  have _ := fz x2_1
  have _ := ltb x2_1
  have X2_1 := hid x2_1; clear x2_1
  have G2 := hid (G1.out.trans hg2)
  clear hg2
  go_wp2_with fail
  refine (toTb_any _ _ _ _ _ _ xs _ hn (HR.out.keep G2.out)).mono ?_
  rintro e w3 ⟨g3_, rfl, xb3, _, hg3⟩
  have x3_1 := hg3.keep X2_1.out
  obtain ⟨_, _, _, _, _⟩ := cells5 x3_1
  have _ := fz x3_1
  have _ := ltb x3_1
  have _ := ltb xb3
  have X3_1 := hid x3_1; clear x3_1
  have Xb3 := hid xb3; clear xb3
  have G3 := hid (G2.out.trans hg3)
  clear hg3
  go_wp2_with fail
  refine (toFracS_any _ ys _ hn2 (HRB.out.keep G3.out)).mono ?_
  rintro e w4 ⟨rfl, xb4, hg4⟩
  have x4_1 := hg4.keep X3_1.out
  have x4_2 := hg4.keep Xb3.out
  obtain ⟨_, _, _, _, _⟩ := cells5 x4_1
  have _ := fz x4_1
  have _ := ltb x4_1
  have _ := ltb x4_2
  have _ := ltb xb4
  have X4_1 := hid x4_1; clear x4_1
  have X4_2 := hid x4_2; clear x4_2
  have Xb4 := hid xb4; clear xb4
  have G4 := hid (G3.out.trans hg4)
  clear hg4
  go_wp2_with fail
  refine (HS.out _ _ _ _ _ (Nat.le_refl _) (Nat.le_refl _) (hid (RdO.of_block X4_2.out)) (hid (RdF.of_block Xb4.out))).mono ?_
  rintro e w5 ⟨rfl, hg5⟩
  have x5_1 := hg5.keep X4_1.out
  have x5_2 := hg5.keep X4_2.out
  have x5_3 := hg5.keep Xb4.out
  obtain ⟨_, _, _, _, _⟩ := cells5 x5_1
  have _ := fz x5_1
  have _ := ltb x5_1
  have _ := ltb x5_2
  have _ := ltb x5_3
  have X5_1 := hid x5_1; clear x5_1
  have X5_2 := hid x5_2; clear x5_2
  have X5_3 := hid x5_3; clear x5_3
  have G5 := hid (G4.out.trans hg5)
  clear hg5
  go_wp2_with fail
  refine (toTb_any _ _ _ _ _ _ xs _ hn (HR.out.keep (G5.out.al _))).mono ?_
  rintro e w6 ⟨g6_, rfl, xb6, _, hg6⟩
  obtain ⟨x6_0, hz6, g6⟩ := alloc1 hg6
  have x6_1 := g6.keep X5_1.out
  have x6_2 := g6.keep X5_2.out
  have x6_3 := g6.keep X5_3.out
  obtain ⟨_, _, _, _, _⟩ := cells5 x6_1
  have _ := fz x6_1
  have _ := ltb x6_1
  have _ := ltb x6_2
  have _ := ltb x6_3
  obtain ⟨_, _⟩ := cells2 x6_0
  have _ := fz x6_0
  have _ := ltb x6_0
  have _ := ltb xb6
  have X6_1 := hid x6_1; clear x6_1
  have X6_2 := hid x6_2; clear x6_2
  have X6_3 := hid x6_3; clear x6_3
  have X6_0 := hid x6_0; clear x6_0
  have Xb6 := hid xb6; clear xb6
  have G6 := hid (G5.out.trans g6)
  clear hg6 g6
  go_wp2_with fail
  refine (toFracS_any _ ys _ hn2 (HRB.out.keep (G6.out.al _))).mono ?_
  rintro e w7 ⟨rfl, xb7, hg7⟩
  obtain ⟨x7_0, hz7, g7⟩ := alloc1 hg7
  have x7_1 := g7.keep X6_1.out
  have x7_2 := g7.keep X6_2.out
  have x7_3 := g7.keep X6_3.out
  have x7_4 := g7.keep X6_0.out
  have x7_5 := g7.keep Xb6.out
  obtain ⟨_, _, _, _, _⟩ := cells5 x7_1
  have _ := fz x7_1
  have _ := ltb x7_1
  have _ := ltb x7_2
  have _ := ltb x7_3
  obtain ⟨_, _⟩ := cells2 x7_4
  have _ := fz x7_4
  have _ := ltb x7_4
  have _ := ltb x7_5
  obtain ⟨_, _, _, _, _⟩ := cells5 x7_0
  have _ := fz x7_0
  have _ := ltb x7_0
  have _ := ltb xb7
  have X7_1 := hid x7_1; clear x7_1
  have X7_2 := hid x7_2; clear x7_2
  have X7_3 := hid x7_3; clear x7_3
  have X7_4 := hid x7_4; clear x7_4
  have X7_5 := hid x7_5; clear x7_5
  have X7_0 := hid x7_0; clear x7_0
  have Xb7 := hid xb7; clear xb7
  have G7 := hid (G6.out.trans g7)
  clear hg7 g7
  have Xb7 := hid (al_at Xb7.out)
  go_wp2_with fail
  refine (HI.out _ _ _ _ _ (Nat.le_refl _) (Nat.le_refl _) (hid (RdO.of_block X7_5.out)) (hid (RdF.of_block Xb7.out))).mono ?_
  rintro e w8 ⟨rfl, hg8⟩
  have x8_1 := hg8.keep X7_1.out
  have x8_2 := hg8.keep X7_2.out
  have x8_3 := hg8.keep X7_3.out
  have x8_4 := hg8.keep X7_4.out
  have x8_5 := hg8.keep X7_5.out
  have x8_6 := hg8.keep X7_0.out
  have x8_7 := hg8.keep Xb7.out
  obtain ⟨_, _, _, _, _⟩ := cells5 x8_1
  have _ := fz x8_1
  have _ := ltb x8_1
  have _ := ltb x8_2
  have _ := ltb x8_3
  obtain ⟨_, _⟩ := cells2 x8_4
  have _ := fz x8_4
  have _ := ltb x8_4
  have _ := ltb x8_5
  obtain ⟨_, _, _, _, _⟩ := cells5 x8_6
  have _ := fz x8_6
  have _ := ltb x8_6
  have _ := ltb x8_7
  have X8_1 := hid x8_1; clear x8_1
  have X8_2 := hid x8_2; clear x8_2
  have X8_3 := hid x8_3; clear x8_3
  have X8_4 := hid x8_4; clear x8_4
  have X8_5 := hid x8_5; clear x8_5
  have X8_6 := hid x8_6; clear x8_6
  have X8_7 := hid x8_7; clear x8_7
  have G8 := hid (G7.out.trans hg8)
  clear hg8
  go_wp2_with fail
  refine (eqFrac_any _ _ _).mono ?_
  rintro e w9 ⟨rfl, hg9⟩
  obtain ⟨x9_0, hz9, g9⟩ := alloc1 hg9
  have x9_1 := g9.keep X8_1.out
  have x9_2 := g9.keep X8_2.out
  have x9_3 := g9.keep X8_3.out
  have x9_4 := g9.keep X8_4.out
  have x9_5 := g9.keep X8_5.out
  have x9_6 := g9.keep X8_6.out
  have x9_7 := g9.keep X8_7.out
  obtain ⟨_, _, _, _, _⟩ := cells5 x9_1
  have _ := fz x9_1
  have _ := ltb x9_1
  have _ := ltb x9_2
  have _ := ltb x9_3
  obtain ⟨_, _⟩ := cells2 x9_4
  have _ := fz x9_4
  have _ := ltb x9_4
  have _ := ltb x9_5
  obtain ⟨_, _, _, _, _⟩ := cells5 x9_6
  have _ := fz x9_6
  have _ := ltb x9_6
  have _ := ltb x9_7
  obtain ⟨_, _⟩ := cells2 x9_0
  have _ := fz x9_0
  have _ := ltb x9_0
  have X9_1 := hid x9_1; clear x9_1
  have X9_2 := hid x9_2; clear x9_2
  have X9_3 := hid x9_3; clear x9_3
  have X9_4 := hid x9_4; clear x9_4
  have X9_5 := hid x9_5; clear x9_5
  have X9_6 := hid x9_6; clear x9_6
  have X9_7 := hid x9_7; clear x9_7
  have X9_0 := hid x9_0; clear x9_0
  have G9 := hid (G8.out.trans g9)
  clear hg9 g9
  cases b
  all_goals
    go_wp2_with fail
    go_region_with (first | (go_at_call 25; refine (toTb_any _ _ _ _ _ _ xs _ hn (HR.out.keep (G9.out.trans (Gr.drew _)))).mono ?_; rintro x wb ⟨gb, rfl, xb, _, hgb⟩; have XB := hid xb; have GB := hid ((Gr.drew _).trans hgb); have XA := hid (GB.out.keep X9_5.out); have LA := hid (GB.out.keep X9_6.out); have YA := hid (GB.out.keep X9_7.out); obtain ⟨_, _, _, _, _⟩ := cells5 LA.out; clear xb hgb) | (go_at_call 29; refine (eqTb_any _ _ _ _ _ _ _ _ xs _ (hid (RdO.of_block XA.out)) (hid (RdO.of_block XB.out)) hn).mono ?_; rintro x wd ⟨rfl, hgd⟩; have YD := hid (hgd.keep YA.out); have GD := hid ((G9.out.trans GB.out).trans hgd); clear hgd))
    all_goals
      go_wp2_with fail
      refine (toFracS_any _ ys _ hn2 (HRB.out.keep GD.out)).mono ?_
      rintro x we ⟨rfl, xe, hge⟩
      have XE := hid xe; have YE := hid (hge.keep YD.out); have GE := hid (GD.out.trans hge)
      clear xe hge
      go_wp2_with fail
      refine (eqF_any _ _ _ _ ys _ (hid (RdF.of_block YE.out)) (hid (RdF.of_block XE.out)) hn2).mono ?_
      rintro x wf ⟨rfl, hgf⟩
      have GF := hid (GE.out.trans hgf)
      clear hgf
      go_wp2_with fail
      go_ret
      exact ⟨rfl, GF.out⟩
set_option maxRecDepth 20000 in
set_option maxHeartbeats 400000 in
theorem lawSquaresOf_big (n : Int) (A B : Option Addr) (m cap k capB : Nat) (b : Bool) (p q : Int) (w : World) (h : 1048576 < m) (h2 : m ≤ 9223372036854775807) :
    Calls Try.prog 6 #[tbl n A m cap b p q, .slice B k capB] w fun e w' => e = .returned (.bool true) ∧ Gr w w' := by
  go_enter Try.func6, Try.ntmps6
  go_wp2_with fail
  refine (szTb_no _ _ _ _ _ _ _ _ _ (by omega) h2 (by omega) (by omega)).mono ?_
  rintro e w1 ⟨rfl, hg1⟩
  obtain ⟨x1_0, hz1, g1⟩ := alloc1 hg1
  obtain ⟨_, _, _, _, _⟩ := cells5 x1_0
  have _ := fz x1_0
  have _ := ltb x1_0
  have X1_0 := hid x1_0; clear x1_0
  have G1 := hid (g1)
  clear hg1 g1
  go_wp2
  go_ret
  exact ⟨rfl, G1.out⟩
set_option maxRecDepth 20000 in
set_option maxHeartbeats 400000 in
theorem lawSquaresOf_big2 (n : Int) (A B : Option Addr) (m cap k capB : Nat) (b : Bool) (p q : Int) (w : World) (h0 : m ≤ 1048576) (h : 1048576 < m + k) (h2 : k ≤ 9223372036854775807) :
    Calls Try.prog 6 #[tbl n A m cap b p q, .slice B k capB] w fun e w' => e = .returned (.bool true) ∧ Gr w w' := by
  have HSZ := hid fun (w : World) => (szF B k capB (1048576 - (m : Int)) w h2 (by omega) (by omega)).mono (R' := fun e w' => e = .returned (.int .i64 (-1)) ∧ Gr w w') fun e w' h => ⟨by rw [h.1, if_neg (by omega)], h.2⟩
  go_enter Try.func6, Try.ntmps6
  go_wp2_with fail
  refine (szTb_yes _ _ _ _ _ _ _ _ _ (by omega) (by omega)).mono ?_
  rintro e w1 ⟨rfl, hg1⟩
  obtain ⟨x1_0, hz1, g1⟩ := alloc1 hg1
  obtain ⟨_, _, _, _, _⟩ := cells5 x1_0
  have _ := fz x1_0
  have _ := ltb x1_0
  have X1_0 := hid x1_0; clear x1_0
  have G1 := hid (g1)
  clear hg1 g1
  go_wp2_with fail
  refine (HSZ.out _).mono ?_
  rintro e w2 ⟨rfl, hg2⟩
  have x2_1 := hg2.keep X1_0.out
  obtain ⟨_, _, _, _, _⟩ := cells5 x2_1
  have _ := fz x2_1
  have _ := ltb x2_1
  have X2_1 := hid x2_1; clear x2_1
  have G2 := hid (G1.out.trans hg2)
  clear hg2
  go_wp2
  go_ret
  exact ⟨rfl, G2.out⟩

open Go.ChangeShapes Go.WideShapes Go.ChangeAt Go.Joins
theorem laidOutSquaresOf : laidOutB Try.prog = true := by as_aux_lemma => kernel_rfl
set_option maxRecDepth 100000 in
theorem liftedSquaresOf (os : Os) (started : os.Started) (H : Type) (enc : TypeId × Value → H) :
    ReturnsInHanded {} Try.checked os 6 .any (Rows.fnExactSquaresOfSpec.pre6 enc Try.prog Try.f6 Rows.fnExactSquaresOfRow.domain false) (Rows.fnExactSquaresOfSpec.post enc Try.prog Try.f6 false true false false) := by
  refine returnsInHanded_of_change (C := Try.checked) ownNone started (by kernel_rfl) Try.func6
    (ChangeSpec.witness6 (enc := enc) (C := Try.checked) false ⟨#[], #[.agg #[.int .i64 0, .slice none 0 0, .bool false, .int .i64 0, .int .i64 0], .slice none 0 0], []⟩ 8 (by kernel_rfl) (by kernel_rfl) (by kernel_rfl) (by kernel_rfl)) ?_
  intro W base args ds gs before hval0 hW _ _
  have hval : ∀ (j : Nat) t v, Try.f6.params[j]? = some t → args[j]? = some v → Value.okWide Try.prog W .any base t v := hval0
  have hW' := hW
  obtain ⟨p, q, hA0, hV, rfl, _, _⟩ := hW
  have hA : DataW.TrodAll enc Try.prog W 0 (fun _ => true) true Try.f6.params.toList args.toList ds p := hA0
  rw [Try.params6] at hA hval
  obtain ⟨u0, u1, d0, d1, p0, p1, rfl, rfl, rfl, h0, h1⟩ := trodAll_two hA
  obtain ⟨rfl, rfl⟩ := trodVars_none hV
  clear hA0 hval0
  simp only [List.append_nil] at hW'
  have hlt : ∀ x ∈ p0 ++ p1, x.block < W.heap.size := fun x hx => by simpa using hW'.lt x hx
  have done : ∀ (e : Ending) (W' : World), e = .returned (.bool true) ∧ Gr W W' → ∃ v, e = .returned v ∧ Rows.fnExactSquaresOfSpec.post enc Try.prog Try.f6 false true false false W #[u0, u1] v W' := fun e W' ⟨he, hg⟩ => by
    subst he
    exact ⟨_, rfl, _, _, _, [], p0 ++ p1, [], hW', trodAll_mk1 (shut_bool Try.underlying4 _), trodAll_mk2 (Below.trod laidOutSquaresOf (by kernel_rfl) (of_decide_eq_true (by kernel_rfl)) h0 hg.below (fun x hx => hlt x (List.mem_append_left _ hx))) (Below.trod laidOutSquaresOf (by kernel_rfl) (of_decide_eq_true (by kernel_rfl)) h1 hg.below (fun x hx => hlt x (List.mem_append_right _ hx))), rfl, hg.below.frame _, fun h => by cases h⟩
  obtain ⟨n, A, m, cap, b, p', q', rfl, hmax, xs, rfl, hraw, hw⟩ := open_table (hval 0 43 u0 rfl rfl) h0
  obtain ⟨B, m, capB, rfl⟩ := okWide_slice Try.underlying34 (hval 1 34 u1 rfl rfl)
  obtain ⟨hmaxB, ys, rfl, hrawB⟩ := open_fracs h1
  by_cases hn : xs.length ≤ 1048576
  · by_cases hm : xs.length + ys.length ≤ 1048576
    · obtain ⟨P0, Q0, R1, hs, hi⟩ := bothSquaresOf n b p' q' xs ys hn (by omega) hw
      exact (lawSquaresOf n A B cap capB b p' q' xs ys P0 Q0 R1 W hraw hrawB hm hs hi).mono done
    · exact (lawSquaresOf_big2 n A B xs.length cap ys.length capB b p' q' W hn (by omega) hmaxB).mono done
  · exact (lawSquaresOf_big n A B xs.length cap ys.length capB b p' q' W (by omega) hmax).mono done

set_option maxHeartbeats 2000000 in
theorem closedSquaresOf : joinedFacts Try.pinned.checked.prog 6 Try.f6 Rows.fnExactSquaresOfSpec Rows.fnExactSquaresOfRow = true := by
  unfold joinedFacts
  refine Bool.and_eq_true_iff.2 ⟨?_, by as_aux_lemma => kernel_rfl⟩
  refine Bool.and_eq_true_iff.2 ⟨?_, by as_aux_lemma => kernel_rfl⟩
  refine Bool.and_eq_true_iff.2 ⟨?_, by as_aux_lemma => kernel_rfl⟩
  refine Bool.and_eq_true_iff.2 ⟨?_, by as_aux_lemma => kernel_rfl⟩
  refine Bool.and_eq_true_iff.2 ⟨?_, by rw [fact_make]; rfl⟩
  refine Bool.and_eq_true_iff.2 ⟨?_, by rw [fact_final]; rfl⟩
  refine Bool.and_eq_true_iff.2 ⟨?_, fact_enters⟩
  refine Bool.and_eq_true_iff.2 ⟨?_, by as_aux_lemma => kernel_rfl⟩
  refine Bool.and_eq_true_iff.2 ⟨?_, by as_aux_lemma => kernel_rfl⟩
  refine Bool.and_eq_true_iff.2 ⟨?_, by as_aux_lemma => kernel_rfl⟩
  refine Bool.and_eq_true_iff.2 ⟨?_, by as_aux_lemma => kernel_rfl⟩
  refine Bool.and_eq_true_iff.2 ⟨?_, by as_aux_lemma => kernel_rfl⟩
  refine Bool.and_eq_true_iff.2 ⟨?_, by as_aux_lemma => kernel_rfl⟩
  refine Bool.and_eq_true_iff.2 ⟨?_, by as_aux_lemma => kernel_rfl⟩
  refine Bool.and_eq_true_iff.2 ⟨?_, by as_aux_lemma => kernel_rfl⟩
  refine Bool.and_eq_true_iff.2 ⟨?_, by as_aux_lemma => kernel_rfl⟩
  refine Bool.and_eq_true_iff.2 ⟨?_, by as_aux_lemma => kernel_rfl⟩
  refine Bool.and_eq_true_iff.2 ⟨?_, by as_aux_lemma => kernel_rfl⟩
  refine Bool.and_eq_true_iff.2 ⟨?_, by as_aux_lemma => kernel_rfl⟩
  refine Bool.and_eq_true_iff.2 ⟨?_, by as_aux_lemma => kernel_rfl⟩
  refine Bool.and_eq_true_iff.2 ⟨?_, by as_aux_lemma => kernel_rfl⟩
  refine Bool.and_eq_true_iff.2 ⟨?_, by as_aux_lemma => kernel_rfl⟩
  refine Bool.and_eq_true_iff.2 ⟨?_, by as_aux_lemma => kernel_rfl⟩
  refine Bool.and_eq_true_iff.2 ⟨?_, by as_aux_lemma => kernel_rfl⟩
  refine Bool.and_eq_true_iff.2 ⟨?_, by as_aux_lemma => kernel_rfl⟩
  refine Bool.and_eq_true_iff.2 ⟨?_, by as_aux_lemma => kernel_rfl⟩
  refine Bool.and_eq_true_iff.2 ⟨?_, by as_aux_lemma => kernel_rfl⟩
  refine Bool.and_eq_true_iff.2 ⟨?_, by as_aux_lemma => kernel_rfl⟩
  refine Bool.and_eq_true_iff.2 ⟨?_, by as_aux_lemma => kernel_rfl⟩
  refine Bool.and_eq_true_iff.2 ⟨?_, by as_aux_lemma => kernel_rfl⟩
  as_aux_lemma => kernel_rfl
theorem squaresOf_holds : Rows.FnExactSquaresOfSaid :=
  OpenClaim.holds_of_wide 6 Try.f6 rfl rfl rfl rfl rfl rfl rfl ⟨rfl, rfl, rfl, rfl, rfl⟩ rfl rfl rfl rfl rfl (by as_aux_lemma => kernel_rfl) Try.func6 closedSquaresOf
    (of_decide_eq_true (by as_aux_lemma => kernel_rfl)) (by unfold Func.isWrapper; rw [if_neg (by decide +kernel)]; exact ⟨rfl, rfl⟩)
    (fun os started H enc _ => liftedSquaresOf os started H enc)
#print axioms squaresOf_holds
end Go.Proofs.Ytjhlpaeenjbljaa
