/- The law FnExactSameTable of the laws package returns true for every two tables, valid or not; they read behind the call as before it. No condition. -/
import Derived.Test.YteopkbeokiomlaaRows
import Derived.Test.YteopkbeokiomlaaOm
import Derived.Test.YteopkbeokiomlaaOb
import Derived.Test.YteopkbeokiomlaaRo
import Derived.Test.YteopkbeokiomlaaFacts
import Derived.ProofKit
import Derived.Carry
import Derived.Deep.CutRange
import Derived.Deep.RegionWith
import Derived.Lib.SmallJoins
namespace Go.Proofs.Yteopkbeokiomlaa
open Go.RowKit Go.Sort

set_option maxRecDepth 20000 in
set_option maxHeartbeats 2000000 in
theorem lawSameTable (n n' : Int) (A A' : Option Addr) (cap cap' : Nat) (b b' : Bool) (p q p' q' : Int) (xs ys : List Obv) (R : Bool) (w : World) (hr : RawO w (.slice A xs.length cap) xs) (hr' : RawO w (.slice A' ys.length cap') ys) (hn : xs.length ≤ 1048576) (hm : (ys.length : Int) ≤ 1048576 - (xs.length : Int))
    (hs : ∀ (A A' : Option Addr) (c c' : Nat) (w : World), Hid (RdO w A xs) → Hid (RdO w A' ys) → Calls Try.prog 62 #[tbl n A xs.length c b p q, tbl n' A' ys.length c' b' p' q'] w fun x w' => x = .returned (.bool R) ∧ Gr w w')
    (hi : ∀ (A A' : Option Addr) (c c' : Nat) (w : World), Hid (RdO w A xs) → Hid (RdO w A' ys) → Calls Try.prog 63 #[tbl n A xs.length c b p q, tbl n' A' ys.length c' b' p' q'] w fun x w' => x = .returned (.bool R) ∧ Gr w w') :
    Calls Try.prog 13 #[tbl n A xs.length cap b p q, tbl n' A' ys.length cap' b' p' q'] w fun x w' => x = .returned (.bool true) ∧ Gr w w' := by
  have HS := hid hs; have HI := hid hi; have HR := hid hr; have HR' := hid hr'
  have hm2 : ys.length ≤ 1048576 := by omega
  clear hs hi hr hr'
  go_enter Try.func13, Try.ntmps13
  go_wp2_with fail
  refine (szTb_yes _ _ _ _ _ _ _ _ _ (by omega) (by omega)).mono ?_
  rintro e w1 ⟨rfl, hg1⟩
  obtain ⟨x1_0, x1_1, hz1, g1⟩ := alloc2 hg1
  obtain ⟨_, _, _, _, _⟩ := cells5 x1_0
  have _ := fz x1_0
  have _ := ltb x1_0
  obtain ⟨_, _, _, _, _⟩ := cells5 x1_1
  have _ := fz x1_1
  have _ := ltb x1_1
  have X1_0 := hid x1_0; clear x1_0
  have X1_1 := hid x1_1; clear x1_1
  have G1 := hid (g1)
  clear hg1 g1
  go_wp2_with fail
  refine (szTb_yes _ _ _ _ _ _ _ _ _ (by omega) (by omega)).mono ?_
  rintro e w2 ⟨rfl, hg2⟩
  have x2_1 := hg2.keep X1_0.out
  have x2_2 := hg2.keep X1_1.out
  obtain ⟨_, _, _, _, _⟩ := cells5 x2_1
  have _ := fz x2_1
  have _ := ltb x2_1
  obtain ⟨_, _, _, _, _⟩ := cells5 x2_2
  have _ := fz x2_2
  have _ := ltb x2_2
  have X2_1 := hid x2_1; clear x2_1
  have X2_2 := hid x2_2; clear x2_2
  have G2 := hid (G1.out.trans hg2)
  clear hg2
  go_wp2_with fail
  go_cut [6] from 20 to 24 (fun s wx => s = .bool R ∧ Gr w2 wx)
  case first =>
    go_region_with (first | (go_at_call_of 60 (Value.slice A xs.length cap); refine (toTb_any n A cap b p q xs _ hn (HR.out.keep (G2.out.trans (Gr.drew _)))).mono ?_; rintro x w3 ⟨g3, rfl, x3, _, hg3⟩; have X3 := hid x3; have G3 := hid ((Gr.drew _).trans hg3); obtain ⟨_, _, _, _, _⟩ := cells5 (G3.out.keep X2_2.out); clear x3 hg3) | (go_at_call_of 60 (Value.slice A' ys.length cap'); refine (toTb_any n' A' cap' b' p' q' ys _ hm2 (HR'.out.keep (G2.out.trans G3.out))).mono ?_; rintro x w4 ⟨g4, rfl, x4, _, hg4⟩; have X4 := hid x4; have X34 := hid (hg4.keep X3.out); have G4 := hid (G3.out.trans hg4); clear x4 hg4) | (go_at_call 62; refine (HS.out _ _ _ _ _ (hid (RdO.of_block X34.out)) (hid (RdO.of_block X4.out))).mono ?_; rintro x w5 ⟨rfl, hg5⟩; have G5 := hid (G4.out.trans hg5); clear hg5))
    all_goals (go_wp2_with fail; go_meet; exact ⟨rfl, G5.out⟩)
  case rest =>
    obtain ⟨rfl, hgc⟩ := hcut
    have GC := hid (G2.out.trans hgc); have B1 := hid (hgc.keep X2_1.out); have B2 := hid (hgc.keep X2_2.out); clear hgc
    obtain ⟨_, _, _, _, _⟩ := cells5 B1.out
    have _ := fz B1.out
    have _ := ltb B1.out
    obtain ⟨_, _, _, _, _⟩ := cells5 B2.out
    have _ := fz B2.out
    have _ := ltb B2.out
    go_wp2_with fail
    refine (toTb_any n _ _ b p q xs _ hn (HR.out.keep GC.out)).mono ?_
    rintro e w3 ⟨g3_, rfl, xb3, _, hg3⟩
    have x3_1 := hg3.keep B1.out
    have x3_2 := hg3.keep B2.out
    obtain ⟨_, _, _, _, _⟩ := cells5 x3_1
    have _ := fz x3_1
    have _ := ltb x3_1
    obtain ⟨_, _, _, _, _⟩ := cells5 x3_2
    have _ := fz x3_2
    have _ := ltb x3_2
    have _ := ltb xb3
    have X3_1 := hid x3_1; clear x3_1
    have X3_2 := hid x3_2; clear x3_2
    have Xb3 := hid xb3; clear xb3
    have G3 := hid (GC.out.trans hg3)
    clear hg3
    go_wp2_with fail
    refine (toTb_any n' _ _ b' p' q' ys _ hm2 (HR'.out.keep (G3.out.al _))).mono ?_
    rintro e w4 ⟨g4_, rfl, xb4, _, hg4⟩
    obtain ⟨x4_0, hz4, g4⟩ := alloc1 hg4
    have x4_1 := g4.keep X3_1.out
    have x4_2 := g4.keep X3_2.out
    have x4_3 := g4.keep Xb3.out
    obtain ⟨_, _, _, _, _⟩ := cells5 x4_1
    have _ := fz x4_1
    have _ := ltb x4_1
    obtain ⟨_, _, _, _, _⟩ := cells5 x4_2
    have _ := fz x4_2
    have _ := ltb x4_2
    have _ := ltb x4_3
    obtain ⟨_, _, _, _, _⟩ := cells5 x4_0
    have _ := fz x4_0
    have _ := ltb x4_0
    have _ := ltb xb4
    have X4_1 := hid x4_1; clear x4_1
    have X4_2 := hid x4_2; clear x4_2
    have X4_3 := hid x4_3; clear x4_3
    have X4_0 := hid x4_0; clear x4_0
    have Xb4 := hid xb4; clear xb4
    have G4 := hid (G3.out.trans g4)
    clear hg4 g4
    go_wp2_with fail
    refine (HI.out _ _ _ _ _ (hid (RdO.of_block (((Gr.refl _).al _).keep X4_3.out))) (hid (RdO.of_block (((Gr.refl _).al _).keep Xb4.out)))).mono ?_
    rintro e w5 ⟨rfl, hg5⟩
    obtain ⟨x5_0, hz5, g5⟩ := alloc1 hg5
    have x5_1 := g5.keep X4_1.out
    have x5_2 := g5.keep X4_2.out
    have x5_3 := g5.keep X4_3.out
    have x5_4 := g5.keep X4_0.out
    have x5_5 := g5.keep Xb4.out
    obtain ⟨_, _, _, _, _⟩ := cells5 x5_1
    have _ := fz x5_1
    have _ := ltb x5_1
    obtain ⟨_, _, _, _, _⟩ := cells5 x5_2
    have _ := fz x5_2
    have _ := ltb x5_2
    have _ := ltb x5_3
    obtain ⟨_, _, _, _, _⟩ := cells5 x5_4
    have _ := fz x5_4
    have _ := ltb x5_4
    have _ := ltb x5_5
    obtain ⟨_, _, _, _, _⟩ := cells5 x5_0
    have _ := fz x5_0
    have _ := ltb x5_0
    have X5_1 := hid x5_1; clear x5_1
    have X5_2 := hid x5_2; clear x5_2
    have X5_3 := hid x5_3; clear x5_3
    have X5_4 := hid x5_4; clear x5_4
    have X5_5 := hid x5_5; clear x5_5
    have X5_0 := hid x5_0; clear x5_0
    have G5 := hid (G4.out.trans g5)
    clear hg5 g5
    cases R
    all_goals
      go_wp2_with fail
      go_cut [39] from 35 to 39 (fun s wx => s = .bool false ∧ Gr w5 wx)
      case first =>
        go_region_with (first | (go_at_call 60; refine (toTb_any n A cap b p q xs _ hn (HR.out.keep (G5.out.trans (Gr.drew _)))).mono ?_; rintro x w6 ⟨g6, rfl, x6, _, hg6⟩; have X6 := hid x6; have G6 := hid ((Gr.drew _).trans hg6); have XA := hid (G6.out.keep X5_3.out); obtain ⟨_, _, _, _, _⟩ := cells5 (G6.out.keep X5_4.out); clear x6 hg6) | (go_at_call 52; refine (eqTb_any n _ _ _ _ b p q xs _ (hid (RdO.of_block XA.out)) (hid (RdO.of_block X6.out)) hn).mono ?_; rintro x w7 ⟨rfl, hg7⟩; have G7 := hid (G6.out.trans hg7); clear hg7))
        all_goals (go_wp2_with fail; go_meet; exact ⟨rfl, G7.out⟩)
      case rest =>
        obtain ⟨rfl, hgc⟩ := hcut
        have GD := hid (G5.out.trans hgc); have C2 := hid (hgc.keep X5_2.out); have C5 := hid (hgc.keep X5_5.out); have C0 := hid (hgc.keep X5_0.out); clear hgc
        obtain ⟨_, _, _, _, _⟩ := cells5 C2.out
        obtain ⟨_, _, _, _, _⟩ := cells5 C0.out
        go_wp2_with fail
        go_region_with (first | (go_at_call 60; refine (toTb_any n' A' cap' b' p' q' ys _ hm2 (HR'.out.keep (GD.out.trans (Gr.drew _)))).mono ?_; rintro x w6 ⟨g6, rfl, x6, _, hg6⟩; have X6 := hid x6; have G6 := hid ((Gr.drew _).trans hg6); have XA := hid (G6.out.keep C5.out); obtain ⟨_, _, _, _, _⟩ := cells5 (G6.out.keep C0.out); clear x6 hg6) | (go_at_call 52; refine (eqTb_any n' _ _ _ _ b' p' q' ys _ (hid (RdO.of_block XA.out)) (hid (RdO.of_block X6.out)) hm2).mono ?_; rintro x w7 ⟨rfl, hg7⟩; have G7 := hid ((GD.out.trans G6.out).trans hg7); clear hg7))
        all_goals
          go_wp2
          go_ret
          exact ⟨rfl, G7.out⟩
set_option maxRecDepth 20000 in
set_option maxHeartbeats 400000 in
theorem lawSameTable_big (n n' : Int) (A A' : Option Addr) (m m' cap cap' : Nat) (b b' : Bool) (p q p' q' : Int) (w : World) (h : 1048576 < m) (h2 : m ≤ 9223372036854775807) :
    Calls Try.prog 13 #[tbl n A m cap b p q, tbl n' A' m' cap' b' p' q'] w fun e w' => e = .returned (.bool true) ∧ Gr w w' := by
  go_enter Try.func13, Try.ntmps13
  go_wp2_with fail
  refine (szTb_no _ _ _ _ _ _ _ _ _ (by omega) h2 (by omega) (by omega)).mono ?_
  rintro e w1 ⟨rfl, hg1⟩
  obtain ⟨x1_0, x1_1, hz1, g1⟩ := alloc2 hg1
  obtain ⟨_, _, _, _, _⟩ := cells5 x1_0
  have _ := fz x1_0
  have _ := ltb x1_0
  obtain ⟨_, _, _, _, _⟩ := cells5 x1_1
  have _ := fz x1_1
  have _ := ltb x1_1
  have X1_0 := hid x1_0; clear x1_0
  have X1_1 := hid x1_1; clear x1_1
  have G1 := hid (g1)
  clear hg1 g1
  go_wp2
  go_ret
  exact ⟨rfl, G1.out⟩
set_option maxRecDepth 20000 in
set_option maxHeartbeats 400000 in
theorem lawSameTable_big2 (n n' : Int) (A A' : Option Addr) (m m' cap cap' : Nat) (b b' : Bool) (p q p' q' : Int) (w : World) (hn : m ≤ 1048576) (h : 1048576 - (m : Int) < (m' : Int)) (h2 : m' ≤ 9223372036854775807) :
    Calls Try.prog 13 #[tbl n A m cap b p q, tbl n' A' m' cap' b' p' q'] w fun e w' => e = .returned (.bool true) ∧ Gr w w' := by
  go_enter Try.func13, Try.ntmps13
  go_wp2_with fail
  refine (szTb_yes _ _ _ _ _ _ _ _ _ (by omega) (by omega)).mono ?_
  rintro e w1 ⟨rfl, hg1⟩
  obtain ⟨x1_0, x1_1, hz1, g1⟩ := alloc2 hg1
  obtain ⟨_, _, _, _, _⟩ := cells5 x1_0
  have _ := fz x1_0
  have _ := ltb x1_0
  obtain ⟨_, _, _, _, _⟩ := cells5 x1_1
  have _ := fz x1_1
  have _ := ltb x1_1
  have X1_0 := hid x1_0; clear x1_0
  have X1_1 := hid x1_1; clear x1_1
  have G1 := hid (g1)
  clear hg1 g1
  go_wp2_with fail
  refine (szTb_no _ _ _ _ _ _ _ _ _ h h2 (by omega) (by omega)).mono ?_
  rintro e w2 ⟨rfl, hg2⟩
  have x2_1 := hg2.keep X1_0.out
  have x2_2 := hg2.keep X1_1.out
  obtain ⟨_, _, _, _, _⟩ := cells5 x2_1
  have _ := fz x2_1
  have _ := ltb x2_1
  obtain ⟨_, _, _, _, _⟩ := cells5 x2_2
  have _ := fz x2_2
  have _ := ltb x2_2
  have X2_1 := hid x2_1; clear x2_1
  have X2_2 := hid x2_2; clear x2_2
  have G2 := hid (G1.out.trans hg2)
  clear hg2
  go_wp2
  go_ret
  exact ⟨rfl, G2.out⟩

open Go.ChangeShapes Go.WideShapes Go.ChangeAt Go.Joins
theorem laidOutSameTable : laidOutB Try.prog = true := by as_aux_lemma => kernel_rfl
set_option maxRecDepth 100000 in
theorem liftedSameTable (os : Os) (started : os.Started) (H : Type) (enc : TypeId × Value → H) :
    ReturnsInHanded {} Try.checked os 13 .any (Rows.fnExactSameTableSpec.pre6 enc Try.prog Try.f13 Rows.fnExactSameTableRow.domain false) (Rows.fnExactSameTableSpec.post enc Try.prog Try.f13 false true false false) := by
  refine returnsInHanded_of_change (C := Try.checked) ownNone started (by kernel_rfl) Try.func13
    (ChangeSpec.witness6 (enc := enc) (C := Try.checked) false ⟨#[], #[.agg #[.int .i64 0, .slice none 0 0, .bool false, .int .i64 0, .int .i64 0], .agg #[.int .i64 0, .slice none 0 0, .bool false, .int .i64 0, .int .i64 0]], []⟩ 8 (by kernel_rfl) (by kernel_rfl) (by kernel_rfl) (by kernel_rfl)) ?_
  intro W base args ds gs before hval0 hW _ _
  have hval : ∀ (j : Nat) t v, Try.f13.params[j]? = some t → args[j]? = some v → Value.okWide Try.prog W .any base t v := hval0
  have hW' := hW
  obtain ⟨p, q, hA0, hV, rfl, _, _⟩ := hW
  have hA : DataW.TrodAll enc Try.prog W 0 (fun _ => true) true Try.f13.params.toList args.toList ds p := hA0
  rw [Try.params13] at hA hval
  obtain ⟨v0, v1, d0, d1, p0, p1, rfl, rfl, rfl, h0, h1⟩ := trodAll_two hA
  obtain ⟨rfl, rfl⟩ := trodVars_none hV
  clear hA0 hval0
  simp only [List.append_nil] at hW'
  have hlt : ∀ x ∈ p0 ++ p1, x.block < W.heap.size := fun x hx => by simpa using hW'.lt x hx
  have done : ∀ (e : Ending) (W' : World), e = .returned (.bool true) ∧ Gr W W' → ∃ v, e = .returned v ∧ Rows.fnExactSameTableSpec.post enc Try.prog Try.f13 false true false false W #[v0, v1] v W' := fun e W' ⟨he, hg⟩ => by
    subst he
    exact ⟨_, rfl, _, _, _, [], p0 ++ p1, [], hW', trodAll_mk1 (shut_bool Try.underlying4 _), trodAll_mk2 (Below.trod laidOutSameTable (by kernel_rfl) (of_decide_eq_true (by kernel_rfl)) h0 hg.below fun x hx => hlt x (List.mem_append_left _ hx)) (Below.trod laidOutSameTable (by kernel_rfl) (of_decide_eq_true (by kernel_rfl)) h1 hg.below fun x hx => hlt x (List.mem_append_right _ hx)), rfl, hg.below.frame _, fun h => by cases h⟩
  obtain ⟨n, A, m, cap, b, p', q', rfl, hmax, xs, rfl, hraw, hw⟩ := open_table (hval 0 93 v0 rfl rfl) h0
  obtain ⟨n', A', m', cap', b', p2, q2, rfl, hmax', ys, rfl, hraw', hw'⟩ := open_table (hval 1 93 v1 rfl rfl) h1
  by_cases hn : xs.length ≤ 1048576
  · by_cases hm : (ys.length : Int) ≤ 1048576 - (xs.length : Int)
    · obtain ⟨R, hs, hi⟩ := bothSameTable n n' b b' p' q' p2 q2 xs ys hn (by omega)
      exact (lawSameTable n n' A A' cap cap' b b' p' q' p2 q2 xs ys R W hraw hraw' hn hm hs hi).mono done
    · exact (lawSameTable_big2 n n' A A' xs.length ys.length cap cap' b b' p' q' p2 q2 W hn (by omega) hmax').mono done
  · exact (lawSameTable_big n n' A A' xs.length ys.length cap cap' b b' p' q' p2 q2 W (by omega) hmax).mono done

set_option maxHeartbeats 2000000 in
theorem closedSameTable : joinedFacts Try.pinned.checked.prog 13 Try.f13 Rows.fnExactSameTableSpec Rows.fnExactSameTableRow = true := by
  unfold joinedFacts
  refine Bool.and_eq_true_iff.2 ⟨?_, by as_aux_lemma => kernel_rfl⟩
  refine Bool.and_eq_true_iff.2 ⟨?_, by as_aux_lemma => kernel_rfl⟩
  refine Bool.and_eq_true_iff.2 ⟨?_, by as_aux_lemma => kernel_rfl⟩
  refine Bool.and_eq_true_iff.2 ⟨?_, by as_aux_lemma => kernel_rfl⟩
  refine Bool.and_eq_true_iff.2 ⟨?_, by rw [fact_make]; rfl⟩
  refine Bool.and_eq_true_iff.2 ⟨?_, by rw [fact_final]; rfl⟩
  refine Bool.and_eq_true_iff.2 ⟨?_, fact_enters⟩
  refine Bool.and_eq_true_iff.2 ⟨?_, by as_aux_lemma => kernel_rfl⟩
  refine Bool.and_eq_true_iff.2 ⟨?_, by as_aux_lemma => kernel_rfl⟩
  refine Bool.and_eq_true_iff.2 ⟨?_, by as_aux_lemma => kernel_rfl⟩
  refine Bool.and_eq_true_iff.2 ⟨?_, by as_aux_lemma => kernel_rfl⟩
  refine Bool.and_eq_true_iff.2 ⟨?_, by as_aux_lemma => kernel_rfl⟩
  refine Bool.and_eq_true_iff.2 ⟨?_, by as_aux_lemma => kernel_rfl⟩
  refine Bool.and_eq_true_iff.2 ⟨?_, by as_aux_lemma => kernel_rfl⟩
  refine Bool.and_eq_true_iff.2 ⟨?_, by as_aux_lemma => kernel_rfl⟩
  refine Bool.and_eq_true_iff.2 ⟨?_, by as_aux_lemma => kernel_rfl⟩
  refine Bool.and_eq_true_iff.2 ⟨?_, by as_aux_lemma => kernel_rfl⟩
  refine Bool.and_eq_true_iff.2 ⟨?_, by as_aux_lemma => kernel_rfl⟩
  refine Bool.and_eq_true_iff.2 ⟨?_, by as_aux_lemma => kernel_rfl⟩
  refine Bool.and_eq_true_iff.2 ⟨?_, by as_aux_lemma => kernel_rfl⟩
  refine Bool.and_eq_true_iff.2 ⟨?_, by as_aux_lemma => kernel_rfl⟩
  refine Bool.and_eq_true_iff.2 ⟨?_, by as_aux_lemma => kernel_rfl⟩
  refine Bool.and_eq_true_iff.2 ⟨?_, by as_aux_lemma => kernel_rfl⟩
  refine Bool.and_eq_true_iff.2 ⟨?_, by as_aux_lemma => kernel_rfl⟩
  refine Bool.and_eq_true_iff.2 ⟨?_, by as_aux_lemma => kernel_rfl⟩
  refine Bool.and_eq_true_iff.2 ⟨?_, by as_aux_lemma => kernel_rfl⟩
  refine Bool.and_eq_true_iff.2 ⟨?_, by as_aux_lemma => kernel_rfl⟩
  refine Bool.and_eq_true_iff.2 ⟨?_, by as_aux_lemma => kernel_rfl⟩
  refine Bool.and_eq_true_iff.2 ⟨?_, by as_aux_lemma => kernel_rfl⟩
  refine Bool.and_eq_true_iff.2 ⟨?_, by as_aux_lemma => kernel_rfl⟩
  as_aux_lemma => kernel_rfl
theorem sameTable_holds : Rows.FnExactSameTableSaid :=
  OpenClaim.holds_of_wide 13 Try.f13 rfl rfl rfl rfl rfl rfl rfl ⟨rfl, rfl, rfl, rfl, rfl⟩ rfl rfl rfl rfl rfl (by as_aux_lemma => kernel_rfl) Try.func13 closedSameTable
    (of_decide_eq_true (by as_aux_lemma => kernel_rfl)) (by unfold Func.isWrapper; rw [if_neg (by decide +kernel)]; exact ⟨rfl, rfl⟩)
    (fun os started H enc _ => liftedSameTable os started H enc)
#print axioms sameTable_holds
end Go.Proofs.Yteopkbeokiomlaa
