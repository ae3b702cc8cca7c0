/- The law FnExactWorstHead of the laws package returns true for every disk, angles and integer, valid or not; they read behind the call as before it. No condition. -/
import Derived.Test.YtljmbdjojogbjaaRows
import Derived.Test.YtljmbdjojogbjaaHm
import Derived.Test.YtljmbdjojogbjaaRk
import Derived.Test.YtljmbdjojogbjaaRi
import Derived.Test.YtljmbdjojogbjaaFactsM
import Derived.ProofKit
import Derived.Carry
import Derived.Lib.SmallJoins
namespace Go.Proofs.Ytljmbdjojogbjaa
open Go.RowKit Go.Sort

theorem al_atW {w w' : World} {o x : Obj} (h : w'.heap[(w.alloc o).heap.size]? = some x) : w'.heap[w.heap.size + 1]? = some x := by
  rwa [show (w.alloc o).heap.size = w.heap.size + 1 from by simp] at h

set_option maxRecDepth 20000 in
set_option maxHeartbeats 2000000 in
theorem lawWorstHead (A A2 : Option Addr) (cap cap2 : Nat) (xs : List Int) (e no : Int) (gs : List Int) (l : Int) (R0 R1 R2 : Int) (w : World) (hr : RawH w (.slice A xs.length cap) xs) (hr2 : RawI w (.slice A2 gs.length cap2) gs) (hn : xs.length ≤ 1048576) (hm : gs.length ≤ 1048576)
    (hs : ∀ (A A2 : Option Addr) (c c2 : Nat) (w : World), xs.length ≤ c → Hid (RdH w A xs) → Hid (RdI w A2 gs) → Calls Try.prog 8 #[dk A xs.length c e no, .slice A2 gs.length c2, .int .i64 l] w fun x w' => x = .returned (.tuple #[.int .i64 R0, .int .i64 R1, .int .i64 R2]) ∧ Gr w w')
    (hi : ∀ (A A2 : Option Addr) (c c2 : Nat) (w : World), xs.length ≤ c → Hid (RdH w A xs) → Hid (RdI w A2 gs) → Calls Try.prog 11 #[dk A xs.length c e no, .slice A2 gs.length c2, .int .i64 l] w fun x w' => x = .returned (.tuple #[.int .i64 R0, .int .i64 R1, .int .i64 R2]) ∧ Gr w w') :
    Calls Try.prog 3 #[dk A xs.length cap e no, .slice A2 gs.length cap2, .int .i64 l] w fun x w' => x = .returned (.bool true) ∧ Gr w w' := by
  have HS := hid hs; have HI := hid hi; have HR := hid hr; have HR2 := hid hr2
  clear hs hi hr hr2
  go_enter Try.func3, Try.ntmps3
  go_wp2_with fail
  refine (szDk_yes _ _ _ _ _ _ hn).mono ?_
  rintro e w1 ⟨rfl, hg1⟩
  obtain ⟨x1_0, hz1, g1⟩ := alloc1 hg1
  obtain ⟨_, _, _⟩ := cells3 x1_0
  have _ := fz x1_0
  have _ := ltb x1_0
  have X1_0 := hid x1_0; clear x1_0
  have G1 := hid (g1)
  clear hg1 g1
  go_wp2_with fail
  refine (toDk_any _ _ xs e no _ hn (HR.out.keep G1.out)).mono ?_
  rintro e w2 ⟨g2_, rfl, xb2, _, hg2⟩
  have x2_1 := hg2.keep X1_0.out
  obtain ⟨_, _, _⟩ := cells3 x2_1
  have _ := fz x2_1
  have _ := ltb x2_1
  have _ := ltb xb2
  have X2_1 := hid x2_1; clear x2_1
  have Xb2 := hid xb2; clear xb2
  have G2 := hid (G1.out.trans hg2)
  clear hg2
  go_wp2_with fail
  refine (toInt64S_any _ gs _ hm (HR2.out.keep G2.out)).mono ?_
  rintro e w3 ⟨rfl, xb3, hg3⟩
  have x3_1 := hg3.keep X2_1.out
  have x3_2 := hg3.keep Xb2.out
  obtain ⟨_, _, _⟩ := cells3 x3_1
  have _ := fz x3_1
  have _ := ltb x3_1
  have _ := ltb x3_2
  have _ := ltb xb3
  have X3_1 := hid x3_1; clear x3_1
  have X3_2 := hid x3_2; clear x3_2
  have Xb3 := hid xb3; clear xb3
  have G3 := hid (G2.out.trans hg3)
  clear hg3
  go_wp2_with fail
  refine (HS.out _ _ _ _ _ (Nat.le_refl _) (hid (RdH.of_block X3_2.out)) (hid (RdI.of_block Xb3.out))).mono ?_
  rintro e w4 ⟨rfl, hg4⟩
  have x4_1 := hg4.keep X3_1.out
  have x4_2 := hg4.keep X3_2.out
  have x4_3 := hg4.keep Xb3.out
  obtain ⟨_, _, _⟩ := cells3 x4_1
  have _ := fz x4_1
  have _ := ltb x4_1
  have _ := ltb x4_2
  have _ := ltb x4_3
  have X4_1 := hid x4_1; clear x4_1
  have X4_2 := hid x4_2; clear x4_2
  have X4_3 := hid x4_3; clear x4_3
  have G4 := hid (G3.out.trans hg4)
  clear hg4
  go_wp2_with fail
  refine (toDk_any _ _ xs e no _ hn (HR.out.keep G4.out)).mono ?_
  rintro e w5 ⟨g5_, rfl, xb5, _, hg5⟩
  have x5_1 := hg5.keep X4_1.out
  have x5_2 := hg5.keep X4_2.out
  have x5_3 := hg5.keep X4_3.out
  obtain ⟨_, _, _⟩ := cells3 x5_1
  have _ := fz x5_1
  have _ := ltb x5_1
  have _ := ltb x5_2
  have _ := ltb x5_3
  have _ := ltb xb5
  have X5_1 := hid x5_1; clear x5_1
  have X5_2 := hid x5_2; clear x5_2
  have X5_3 := hid x5_3; clear x5_3
  have Xb5 := hid xb5; clear xb5
  have G5 := hid (G4.out.trans hg5)
  clear hg5
  go_wp2_with fail
  refine (toInt64S_any _ gs _ hm (HR2.out.keep (G5.out.al _))).mono ?_
  rintro e w6 ⟨rfl, xb6, hg6⟩
  obtain ⟨x6_0, hz6, g6⟩ := alloc1 hg6
  have x6_1 := g6.keep X5_1.out
  have x6_2 := g6.keep X5_2.out
  have x6_3 := g6.keep X5_3.out
  have x6_4 := g6.keep Xb5.out
  obtain ⟨_, _, _⟩ := cells3 x6_1
  have _ := fz x6_1
  have _ := ltb x6_1
  have _ := ltb x6_2
  have _ := ltb x6_3
  have _ := ltb x6_4
  obtain ⟨_, _, _⟩ := cells3 x6_0
  have _ := fz x6_0
  have _ := ltb x6_0
  have _ := ltb xb6
  have X6_1 := hid x6_1; clear x6_1
  have X6_2 := hid x6_2; clear x6_2
  have X6_3 := hid x6_3; clear x6_3
  have X6_4 := hid x6_4; clear x6_4
  have X6_0 := hid x6_0; clear x6_0
  have Xb6 := hid xb6; clear xb6
  have G6 := hid (G5.out.trans g6)
  clear hg6 g6
  have Xb6 := hid (al_atW Xb6.out)
  go_wp2_with fail
  refine (HI.out _ _ _ _ _ (Nat.le_refl _) (hid (RdH.of_block X6_4.out)) (hid (RdI.of_block Xb6.out))).mono ?_
  rintro e w7 ⟨rfl, hg7⟩
  have x7_1 := hg7.keep X6_1.out
  have x7_2 := hg7.keep X6_2.out
  have x7_3 := hg7.keep X6_3.out
  have x7_4 := hg7.keep X6_4.out
  have x7_5 := hg7.keep X6_0.out
  have x7_6 := hg7.keep Xb6.out
  obtain ⟨_, _, _⟩ := cells3 x7_1
  have _ := fz x7_1
  have _ := ltb x7_1
  have _ := ltb x7_2
  have _ := ltb x7_3
  have _ := ltb x7_4
  obtain ⟨_, _, _⟩ := cells3 x7_5
  have _ := fz x7_5
  have _ := ltb x7_5
  have _ := ltb x7_6
  have X7_1 := hid x7_1; clear x7_1
  have X7_2 := hid x7_2; clear x7_2
  have X7_3 := hid x7_3; clear x7_3
  have X7_4 := hid x7_4; clear x7_4
  have X7_5 := hid x7_5; clear x7_5
  have X7_6 := hid x7_6; clear x7_6
  have G7 := hid (G6.out.trans hg7)
  clear hg7
  go_wp2_with fail
  go_region_with (first | (go_at_call 9; refine (toDk_any _ _ xs e no _ hn (HR.out.keep (G7.out.trans (Gr.drew _)))).mono ?_; rintro x wb ⟨gb, rfl, xb, _, hgb⟩; have XB := hid xb; have GB := hid ((Gr.drew _).trans hgb); have X70 := hid (GB.out.keep X7_5.out); have X73 := hid (GB.out.keep X7_4.out); have X76 := hid (GB.out.keep X7_6.out); obtain ⟨_, _, _⟩ := cells3 X70.out; clear xb hgb) | (go_at_call 12; refine (eqDk_any _ _ _ _ xs e no _ (hid (RdH.of_block X73.out)) (hid (RdH.of_block XB.out)) hn).mono ?_; rintro x wd ⟨rfl, hgd⟩; have GD := hid ((G7.out.trans GB.out).trans hgd); have XD := hid (hgd.keep X76.out); clear hgd))
  all_goals
    go_wp2_with fail
    refine (toInt64S_any _ gs _ hm (HR2.out.keep GD.out)).mono ?_
    rintro x w8 ⟨rfl, x8, g8⟩
    have X8 := hid x8; have X68 := hid (g8.keep XD.out); have G8 := hid (GD.out.trans g8)
    clear x8 g8
    go_wp2_with fail
    refine (eqInt64S_any _ _ _ _ gs _ (hid (RdI.of_block X68.out)) (hid (RdI.of_block X8.out)) hm).mono ?_
    rintro x w9 ⟨rfl, g9⟩
    have G9 := hid (G8.out.trans g9)
    clear g9
    go_wp2
    go_ret
    exact ⟨rfl, G9.out⟩
set_option maxRecDepth 20000 in
set_option maxHeartbeats 400000 in
theorem lawWorstHead_big (A A2 : Option Addr) (n cap n2 cap2 : Nat) (e no l : Int) (w : World) (h : 1048576 < n) (h2 : n ≤ 9223372036854775807) (h3 : n2 ≤ 1048576) :
    Calls Try.prog 3 #[dk A n cap e no, .slice A2 n2 cap2, .int .i64 l] w fun e w' => e = .returned (.bool true) ∧ Gr w w' := by
  go_enter Try.func3, Try.ntmps3
  go_wp2_with fail
  refine (szDk_no _ _ _ _ _ _ h h2).mono ?_
  rintro e w1 ⟨rfl, hg1⟩
  obtain ⟨x1_0, hz1, g1⟩ := alloc1 hg1
  obtain ⟨_, _, _⟩ := cells3 x1_0
  have _ := fz x1_0
  have _ := ltb x1_0
  have X1_0 := hid x1_0; clear x1_0
  have G1 := hid (g1)
  clear hg1 g1
  go_wp2
  go_ret
  exact ⟨rfl, G1.out⟩
set_option maxRecDepth 20000 in
set_option maxHeartbeats 400000 in
theorem lawWorstHead_big2 (A A2 : Option Addr) (n cap n2 cap2 : Nat) (e no l : Int) (w : World) (h : 1048576 < n2) (h2 : n2 ≤ 9223372036854775807) :
    Calls Try.prog 3 #[dk A n cap e no, .slice A2 n2 cap2, .int .i64 l] w fun e w' => e = .returned (.bool true) ∧ Gr w w' := by
  go_enter Try.func3, Try.ntmps3
  go_wp2
  go_ret
  exact ⟨rfl, (Gr.refl w).al _⟩

open Go.ChangeShapes Go.WideShapes Go.ChangeAt Go.Joins
theorem laidOutWorstHead : laidOutB Try.prog = true := by as_aux_lemma => kernel_rfl
set_option maxRecDepth 100000 in
theorem liftedWorstHead (os : Os) (started : os.Started) (H : Type) (enc : TypeId × Value → H) :
    ReturnsInHanded {} Try.checked os 3 .any (Rows.fnExactWorstHeadSpec.pre6 enc Try.prog Try.f3 Rows.fnExactWorstHeadRow.domain false) (Rows.fnExactWorstHeadSpec.post enc Try.prog Try.f3 false true false false) := by
  refine returnsInHanded_of_change (C := Try.checked) ownNone started (by kernel_rfl) Try.func3
    (ChangeSpec.witness6 (enc := enc) (C := Try.checked) false ⟨#[], #[.agg #[.slice none 0 0, .int .i64 0, .int .i64 0], .slice none 0 0, .int .i64 0], []⟩ 8 (by kernel_rfl) (by kernel_rfl) (by kernel_rfl) (by kernel_rfl)) ?_
  intro W base args ds gs before hval0 hW _ _
  have hval : ∀ (j : Nat) t v, Try.f3.params[j]? = some t → args[j]? = some v → Value.okWide Try.prog W .any base t v := hval0
  have hW' := hW
  obtain ⟨p, q, hA0, hV, rfl, _, _⟩ := hW
  have hA : DataW.TrodAll enc Try.prog W 0 (fun _ => true) true Try.f3.params.toList args.toList ds p := hA0
  rw [Try.params3] at hA hval
  obtain ⟨v0, v1, v2, d0, d1, d2, p0, p1, p2, rfl, rfl, rfl, h0, h1, h2⟩ := trodAll_three hA
  obtain ⟨rfl, rfl⟩ := trodVars_none hV
  obtain ⟨l, rfl, rfl, rfl, wl⟩ := open_i64 (hval 2 2 v2 rfl rfl) h2
  clear hA0 hval0
  simp only [List.append_nil] at hW'
  have hlt : ∀ x ∈ p0 ++ p1, x.block < W.heap.size := fun x hx => by simpa using hW'.lt x hx
  have done : ∀ (e : Ending) (W' : World), e = .returned (.bool true) ∧ Gr W W' → ∃ v, e = .returned v ∧ Rows.fnExactWorstHeadSpec.post enc Try.prog Try.f3 false true false false W #[v0, v1, .int .i64 l] v W' := fun e W' ⟨he, hg⟩ => by
    subst he
    exact ⟨_, rfl, _, _, _, [], p0 ++ p1, [], hW', trodAll_mk1 (shut_bool Try.underlying4 _), (by have hta := trodAll_mk3 (Below.trod laidOutWorstHead (by kernel_rfl) (of_decide_eq_true (by kernel_rfl)) h0 hg.below fun x hx => hlt x (List.mem_append_left _ hx)) (Below.trod laidOutWorstHead (by kernel_rfl) (of_decide_eq_true (by kernel_rfl)) h1 hg.below fun x hx => hlt x (List.mem_append_right _ hx)) (shut_i64 wl); simp only [List.append_nil] at hta; exact hta), rfl, hg.below.frame _, fun h => by cases h⟩
  obtain ⟨A, n, cap, e, no, rfl, hmax, xs, rfl, hraw, hh⟩ := open_disk (hval 0 24 v0 rfl rfl) h0
  obtain ⟨A2, n2, cap2, rfl⟩ := okWide_slice Try.underlying25 (hval 1 25 v1 rfl rfl)
  obtain ⟨hmax2, gs, rfl, hraw2⟩ := open_rawI h1
  by_cases hm : gs.length ≤ 1048576
  · by_cases hn : xs.length ≤ 1048576
    · obtain ⟨R0, R1, R2, hs, hi⟩ := bothWorstHead xs e no gs l hn hh hm
      exact (lawWorstHead A A2 cap cap2 xs e no gs l R0 R1 R2 W hraw hraw2 hn hm hs hi).mono done
    · exact (lawWorstHead_big A A2 xs.length cap gs.length cap2 e no l W (by omega) hmax hm).mono done
  · exact (lawWorstHead_big2 A A2 xs.length cap gs.length cap2 e no l W (by omega) hmax2).mono done

set_option maxHeartbeats 2000000 in
theorem closedWorstHead : joinedFacts Try.pinned.checked.prog 3 Try.f3 Rows.fnExactWorstHeadSpec Rows.fnExactWorstHeadRow = true := by
  unfold joinedFacts
  refine Bool.and_eq_true_iff.2 ⟨?_, by as_aux_lemma => kernel_rfl⟩
  refine Bool.and_eq_true_iff.2 ⟨?_, by as_aux_lemma => kernel_rfl⟩
  refine Bool.and_eq_true_iff.2 ⟨?_, by as_aux_lemma => kernel_rfl⟩
  refine Bool.and_eq_true_iff.2 ⟨?_, by as_aux_lemma => kernel_rfl⟩
  refine Bool.and_eq_true_iff.2 ⟨?_, by rw [fact_make]; rfl⟩
  refine Bool.and_eq_true_iff.2 ⟨?_, by rw [fact_final]; rfl⟩
  refine Bool.and_eq_true_iff.2 ⟨?_, fact_enters⟩
  refine Bool.and_eq_true_iff.2 ⟨?_, by as_aux_lemma => kernel_rfl⟩
  refine Bool.and_eq_true_iff.2 ⟨?_, by as_aux_lemma => kernel_rfl⟩
  refine Bool.and_eq_true_iff.2 ⟨?_, by as_aux_lemma => kernel_rfl⟩
  refine Bool.and_eq_true_iff.2 ⟨?_, by as_aux_lemma => kernel_rfl⟩
  refine Bool.and_eq_true_iff.2 ⟨?_, by as_aux_lemma => kernel_rfl⟩
  refine Bool.and_eq_true_iff.2 ⟨?_, by as_aux_lemma => kernel_rfl⟩
  refine Bool.and_eq_true_iff.2 ⟨?_, by as_aux_lemma => kernel_rfl⟩
  refine Bool.and_eq_true_iff.2 ⟨?_, by as_aux_lemma => kernel_rfl⟩
  refine Bool.and_eq_true_iff.2 ⟨?_, by as_aux_lemma => kernel_rfl⟩
  refine Bool.and_eq_true_iff.2 ⟨?_, by as_aux_lemma => kernel_rfl⟩
  refine Bool.and_eq_true_iff.2 ⟨?_, by as_aux_lemma => kernel_rfl⟩
  refine Bool.and_eq_true_iff.2 ⟨?_, by as_aux_lemma => kernel_rfl⟩
  refine Bool.and_eq_true_iff.2 ⟨?_, by as_aux_lemma => kernel_rfl⟩
  refine Bool.and_eq_true_iff.2 ⟨?_, by as_aux_lemma => kernel_rfl⟩
  refine Bool.and_eq_true_iff.2 ⟨?_, by as_aux_lemma => kernel_rfl⟩
  refine Bool.and_eq_true_iff.2 ⟨?_, by as_aux_lemma => kernel_rfl⟩
  refine Bool.and_eq_true_iff.2 ⟨?_, by as_aux_lemma => kernel_rfl⟩
  refine Bool.and_eq_true_iff.2 ⟨?_, by as_aux_lemma => kernel_rfl⟩
  refine Bool.and_eq_true_iff.2 ⟨?_, by as_aux_lemma => kernel_rfl⟩
  refine Bool.and_eq_true_iff.2 ⟨?_, by as_aux_lemma => kernel_rfl⟩
  refine Bool.and_eq_true_iff.2 ⟨?_, by as_aux_lemma => kernel_rfl⟩
  refine Bool.and_eq_true_iff.2 ⟨?_, by as_aux_lemma => kernel_rfl⟩
  refine Bool.and_eq_true_iff.2 ⟨?_, by as_aux_lemma => kernel_rfl⟩
  as_aux_lemma => kernel_rfl
theorem worstHead_holds : Rows.FnExactWorstHeadSaid :=
  OpenClaim.holds_of_wide 3 Try.f3 rfl rfl rfl rfl rfl rfl rfl ⟨rfl, rfl, rfl, rfl, rfl⟩ rfl rfl rfl rfl rfl (by as_aux_lemma => kernel_rfl) Try.func3 closedWorstHead
    (of_decide_eq_true (by as_aux_lemma => kernel_rfl)) (by unfold Func.isWrapper; rw [if_neg (by decide +kernel)]; exact ⟨rfl, rfl⟩)
    (fun os started H enc _ => liftedWorstHead os started H enc)
#print axioms worstHead_holds
end Go.Proofs.Ytljmbdjojogbjaa
