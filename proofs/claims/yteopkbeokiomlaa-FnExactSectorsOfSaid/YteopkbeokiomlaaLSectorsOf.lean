/- The law FnExactSectorsOf of the laws package returns true for every disk and integers, valid or not; they read behind the call as before it. No condition. -/
import Derived.Test.YteopkbeokiomlaaRows
import Derived.Test.YteopkbeokiomlaaSp
import Derived.Test.YteopkbeokiomlaaMh
import Derived.Test.YteopkbeokiomlaaIw
import Derived.Test.YteopkbeokiomlaaRk
import Derived.Test.YteopkbeokiomlaaFacts
import Derived.ProofKit
import Derived.Carry
import Derived.Deep.RegionWith
import Derived.Lib.SmallJoins
namespace Go.Proofs.Yteopkbeokiomlaa
open Go.RowKit Go.Sort

set_option maxRecDepth 20000 in
set_option maxHeartbeats 2000000 in
theorem lawSectorsOf (A : Option Addr) (cap : Nat) (xs : List Int) (e no : Int) (a0 a1 : Int) (ys : List Int) (C : Int) (w : World) (hr : RawH w (.slice A xs.length cap) xs) (hn : xs.length ≤ 1048576) (hys : ys.length ≤ 1048576)
    (hs : ∀ (A : Option Addr) (c : Nat) (w : World), xs.length ≤ c → Hid (RdH w A xs) → Calls Try.prog 32 #[dk A xs.length c e no, .int .i64 a0, .int .i64 a1] w fun x w' => GivesI w w' x ys C)
    (hi : ∀ (A : Option Addr) (c : Nat) (w : World), xs.length ≤ c → Hid (RdH w A xs) → Calls Try.prog 34 #[dk A xs.length c e no, .int .i64 a0, .int .i64 a1] w fun x w' => GivesI w w' x ys C) :
    Calls Try.prog 7 #[dk A xs.length cap e no, .int .i64 a0, .int .i64 a1] w fun x w' => x = .returned (.bool true) ∧ Gr w w' := by
  have HS := hid hs; have HI := hid hi; have HR := hid hr
  clear hs hi hr
  go_enter Try.func7, Try.ntmps7
  go_wp2_with fail
  refine (szDk_yes _ _ _ _ _ _ hn).mono ?_
  rintro e w1 ⟨rfl, hg1⟩
  obtain ⟨x1_0, hz1, g1⟩ := alloc1 hg1
  obtain ⟨_, _, _⟩ := cells3 x1_0
  have _ := fz x1_0
  have _ := ltb x1_0
  have X1_0 := hid x1_0; clear x1_0
  have G1 := hid (g1)
  clear hg1 g1
  have W1 := hid (ltb X1_0.out)
  go_wp2_with fail
  refine (toDk_any _ _ xs e no _ hn (HR.out.keep G1.out)).mono ?_
  rintro x w2 ⟨g2, rfl, x2, _, hg2⟩
  have Y2 := hid x2; have B2 := hid (hg2.keep X1_0.out); have W2 := hid (Nat.lt_of_lt_of_le W1.out hg2.size); have G2 := hid (G1.out.trans hg2); clear x2 hg2
  go_wp2_with fail
  refine (HS.out _ _ _ (Nat.le_refl _) (hid (RdH.of_block Y2.out))).mono ?_
  rintro x w3 ⟨A0, c0, rfl, o3, hg3⟩
  have L3 := hid (own_lt o3); have O3 := hid o3; have B3 := hid (hg3.keep B2.out); have W3 := hid (Nat.lt_of_lt_of_le W2.out hg3.size); have G3 := hid (G2.out.trans hg3); clear o3 hg3 Y2 B2 X1_0
  obtain ⟨_, _, _⟩ := cells3 B3.out
  go_wp2_with fail
  refine (toDk_any _ _ xs e no _ hn (HR.out.keep G3.out)).mono ?_
  rintro x w4 ⟨g4, rfl, x4, hb4, hg4⟩
  have X4 := hid x4; have Z4 := hid hb4; have ZL4 := hid (ltb x4); have O4 := hid (own_gr O3.out hg4); have B4 := hid (hg4.keep B3.out); have G4 := hid (G3.out.trans hg4); clear x4 hb4 hg4 O3 B3
  go_wp2_with fail
  refine (HI.out _ _ _ (Nat.le_refl _) (hid (RdH.of_block (((Gr.refl _).al _).keep X4.out)))).mono ?_
  rintro x w5 ⟨Ag, cg, rfl, o5, hg5⟩
  obtain ⟨lx5, _, g5⟩ := alloc1 hg5
  have OG5 := hid (own_base o5 (show w4.heap.size ≤ _ from ((Gr.refl w4).al _).size)); have LX5 := hid lx5; have O5 := hid (own_gr O4.out g5); have X5 := hid (g5.keep X4.out); have B5 := hid (g5.keep B4.out); have G5 := hid (G4.out.trans g5); clear o5 hg5 lx5 g5 O4 X4 B4
  go_wp2_with fail
  refine (eqInt64S_any _ _ _ _ ys _ (hid (RdI.of_own OG5.out)) (hid (RdI.of_own O5.out)) hys).mono ?_
  rintro x w6 ⟨rfl, g6⟩
  have OG6 := hid (own_gr OG5.out g6); have O6 := hid (own_gr O5.out g6); have X6 := hid (g6.keep X5.out); have B6 := hid (g6.keep B5.out); have LX6 := hid (g6.keep LX5.out); have G6 := hid (G5.out.trans g6); clear g6 OG5 O5 X5 B5 LX5
  obtain ⟨_, _, _⟩ := cells3 B6.out
  obtain ⟨_, _, _⟩ := cells3 LX6.out
  go_wp2_with fail
  go_region_with (first | (go_at_call 33; refine (toDk_any _ _ xs e no _ hn (HR.out.keep (G6.out.trans (Gr.drew _)))).mono ?_; rintro x wb ⟨gb, rfl, xb, _, hgb⟩; have XB := hid xb; have GB := hid ((Gr.drew _).trans hgb); have XA := hid (GB.out.keep X6.out); have LA := hid (GB.out.keep LX6.out); obtain ⟨_, _, _⟩ := cells3 LA.out; clear xb hgb) | (go_at_call 36; refine (eqDk_any _ _ _ _ xs e no _ (hid (RdH.of_block XA.out)) (hid (RdH.of_block XB.out)) hn).mono ?_; rintro x wd ⟨rfl, hgd⟩; have GD := hid (GB.out.trans hgd); clear hgd))
  all_goals
    have OG7 := hid (own_gr OG6.out GD.out); have O7 := hid (own_gr O6.out GD.out); have X7 := hid (GD.out.keep X6.out); have B7 := hid (GD.out.keep B6.out); have LX7 := hid (GD.out.keep LX6.out); have G7 := hid (G6.out.trans GD.out); clear OG6 O6 X6 B6 LX6 XA LA XB
    obtain ⟨_, _, _⟩ := cells3 LX7.out
    go_wp2_with fail
    refine (markDk_any g4 _ xs e no 1 _ _ (hid X7.out) hn (by omega) (by omega)).mono ?_
    rintro x w8 ⟨rfl, on8⟩
    have OG8 := hid (own_only OG7.out on8 (fun ad he => Nat.ne_of_gt (Nat.lt_of_lt_of_le ZL4.out (own_lt OG7.out ad he).1)))
    have R8 := hid (RdI.of_own (own_only O7.out on8 (fun ad he => Nat.ne_of_lt (Nat.lt_of_lt_of_le (L3.out ad he).2 Z4.out))))
    have B8 := hid (on8.1 _ _ (Nat.ne_of_lt (Nat.lt_of_lt_of_le W3.out Z4.out)) B7.out)
    have G8 := hid (on8.2 w G7.out (Nat.le_of_lt (Nat.lt_of_lt_of_le W3.out Z4.out))); clear on8 O7 X7 OG7 B7 LX7
    go_wp2_with fail
    refine (eqInt64S_any _ _ _ _ ys _ (hid (RdI.of_own OG8.out)) R8 hys).mono ?_
    rintro x w9 ⟨rfl, g9⟩
    have OG9 := hid (own_gr OG8.out g9); have R9 := hid (R8.out.keep g9); have B9 := hid (g9.keep B8.out); have G9 := hid (G8.out.trans g9); clear g9 OG8 R8 B8
    go_wp2_with fail
    refine (markOwn _ _ _ _ _ 1 _ OG9 hys (by omega) (by omega)).mono ?_
    rintro x w10 ⟨rfl, gg, hgg, on10, m10⟩
    have M10 := hid m10
    have R10 := hid (R9.out.only on10 (fun ad he => Nat.ne_of_lt (Nat.lt_of_lt_of_le (Nat.lt_of_lt_of_le (L3.out ad he).2 (Nat.le_of_lt (Nat.lt_of_le_of_lt Z4.out ZL4.out))) hgg)))
    have B10 := hid (on10.1 _ _ (Nat.ne_of_lt (Nat.lt_of_lt_of_le (Nat.lt_of_lt_of_le W3.out (Nat.le_of_lt (Nat.lt_of_le_of_lt Z4.out ZL4.out))) hgg)) B9.out)
    have G10 := hid (on10.2 w G9.out (Nat.le_trans (Nat.le_of_lt (Nat.lt_of_lt_of_le W3.out (Nat.le_of_lt (Nat.lt_of_le_of_lt Z4.out ZL4.out)))) hgg)); clear on10 m10 OG9 R9 B9
    go_wp2_with fail
    refine (heldInt64S_any _ _ _ _ _ M10 hys (by omega) (by omega)).mono ?_
    rintro x w11 ⟨rfl, g11⟩
    have M11 := hid (M10.out.keep g11); have R11 := hid (R10.out.keep g11); have B11 := hid (g11.keep B10.out); have G11 := hid (G10.out.trans g11); clear g11 M10 R10 B10
    obtain ⟨_, _, _⟩ := cells3 B11.out
    go_wp2_with fail
    refine (toDk_any _ _ xs e no _ hn (HR.out.keep G11.out)).mono ?_
    rintro x w12 ⟨g12, rfl, x12, _, hg12⟩
    have X12 := hid x12; have M12 := hid (M11.out.keep hg12); have R12 := hid (R11.out.keep hg12); have G12 := hid (G11.out.trans hg12); clear x12 hg12 M11 R11 B11
    go_wp2_with fail
    refine (HI.out _ _ _ (Nat.le_refl _) (hid (RdH.of_block X12.out))).mono ?_
    rintro x w13 ⟨Ah, ch, rfl, o13, g13⟩
    have RH := hid (RdI.of_own o13); have M13 := hid (M12.out.keep g13); have R13 := hid (R12.out.keep g13); have G13 := hid (G12.out.trans g13); clear o13 g13 M12 R12 X12
    go_wp2_with fail
    refine (eqInt64S_any _ _ _ _ ys _ RH R13 hys).mono ?_
    rintro x w14 ⟨rfl, g14⟩
    have M14 := hid (M13.out.keep g14); have G14 := hid (G13.out.trans g14); clear g14 M13 R13 RH
    go_wp2_with fail
    refine (heldInt64S_any _ _ _ _ _ M14 hys (by omega) (by omega)).mono ?_
    rintro x w15 ⟨rfl, g15⟩
    have G15 := hid (G14.out.trans g15); clear g15 M14
    go_wp2_with fail
    go_ret
    exact ⟨rfl, G15.out⟩
set_option maxRecDepth 20000 in
set_option maxHeartbeats 400000 in
theorem lawSectorsOf_big (A : Option Addr) (n cap : Nat) (e no : Int) (a0 a1 : Int) (w : World) (h : 1048576 < n) (h2 : n ≤ 9223372036854775807) :
    Calls Try.prog 7 #[dk A n cap e no, .int .i64 a0, .int .i64 a1] w fun e w' => e = .returned (.bool true) ∧ Gr w w' := by
  go_enter Try.func7, Try.ntmps7
  go_wp2_with fail
  refine (szDk_no _ _ _ _ _ _ h h2).mono ?_
  rintro e w1 ⟨rfl, hg1⟩
  obtain ⟨x1_0, hz1, g1⟩ := alloc1 hg1
  obtain ⟨_, _, _⟩ := cells3 x1_0
  have _ := fz x1_0
  have _ := ltb x1_0
  have X1_0 := hid x1_0; clear x1_0
  have G1 := hid (g1)
  clear hg1 g1
  go_wp2
  go_ret
  exact ⟨rfl, G1.out⟩

open Go.ChangeShapes Go.WideShapes Go.ChangeAt Go.Joins
theorem laidOutSectorsOf : laidOutB Try.prog = true := by as_aux_lemma => kernel_rfl
set_option maxRecDepth 100000 in
theorem liftedSectorsOf (os : Os) (started : os.Started) (H : Type) (enc : TypeId × Value → H) :
    ReturnsInHanded {} Try.checked os 7 .any (Rows.fnExactSectorsOfSpec.pre6 enc Try.prog Try.f7 Rows.fnExactSectorsOfRow.domain false) (Rows.fnExactSectorsOfSpec.post enc Try.prog Try.f7 false true false false) := by
  refine returnsInHanded_of_change (C := Try.checked) ownNone started (by kernel_rfl) Try.func7
    (ChangeSpec.witness6 (enc := enc) (C := Try.checked) false ⟨#[], #[.agg #[.slice none 0 0, .int .i64 0, .int .i64 0], .int .i64 0, .int .i64 0], []⟩ 8 (by kernel_rfl) (by kernel_rfl) (by kernel_rfl) (by kernel_rfl)) ?_
  intro W base args ds gs before hval0 hW _ _
  have hval : ∀ (j : Nat) t v, Try.f7.params[j]? = some t → args[j]? = some v → Value.okWide Try.prog W .any base t v := hval0
  have hW' := hW
  obtain ⟨p, q, hA0, hV, rfl, _, _⟩ := hW
  have hA : DataW.TrodAll enc Try.prog W 0 (fun _ => true) true Try.f7.params.toList args.toList ds p := hA0
  rw [Try.params7] at hA hval
  obtain ⟨v0, v1, v2, d0, d1, d2, p0, p1, p2, rfl, rfl, rfl, h0, h1, h2⟩ := trodAll_three hA
  obtain ⟨rfl, rfl⟩ := trodVars_none hV
  obtain ⟨a0, rfl, rfl, rfl, wa0⟩ := open_i64 (hval 1 2 v1 rfl rfl) h1
  obtain ⟨a1, rfl, rfl, rfl, wa1⟩ := open_i64 (hval 2 2 v2 rfl rfl) h2
  clear hA0 hval0
  simp only [List.append_nil] at hW'
  have hlt : ∀ x ∈ p0, x.block < W.heap.size := fun x hx => by simpa using hW'.lt x hx
  have done : ∀ (e : Ending) (W' : World), e = .returned (.bool true) ∧ Gr W W' → ∃ v, e = .returned v ∧ Rows.fnExactSectorsOfSpec.post enc Try.prog Try.f7 false true false false W #[v0, .int .i64 a0, .int .i64 a1] v W' := fun e W' ⟨he, hg⟩ => by
    subst he
    exact ⟨_, rfl, _, _, _, [], p0, [], hW', trodAll_mk1 (shut_bool Try.underlying4 _), (by have hta := trodAll_mk3 (Below.trod laidOutSectorsOf (by kernel_rfl) (of_decide_eq_true (by kernel_rfl)) h0 hg.below hlt) (shut_i64 wa0) (shut_i64 wa1); simp only [List.append_nil] at hta; exact hta), rfl, hg.below.frame _, fun h => by cases h⟩
  obtain ⟨A, n, cap, e, no, rfl, hmax, xs, rfl, hraw, hh⟩ := open_disk (hval 0 54 v0 rfl rfl) h0
  by_cases hn : xs.length ≤ 1048576
  · obtain ⟨ys, C, hys, hs, hi⟩ := bothSectorsOf xs e no a0 a1 hn hh
    exact (lawSectorsOf A cap xs e no a0 a1 ys C W hraw hn hys hs hi).mono done
  · exact (lawSectorsOf_big A xs.length cap e no a0 a1 W (by omega) hmax).mono done

set_option maxHeartbeats 2000000 in
theorem closedSectorsOf : joinedFacts Try.pinned.checked.prog 7 Try.f7 Rows.fnExactSectorsOfSpec Rows.fnExactSectorsOfRow = true := by
  unfold joinedFacts
  refine Bool.and_eq_true_iff.2 ⟨?_, by as_aux_lemma => kernel_rfl⟩
  refine Bool.and_eq_true_iff.2 ⟨?_, by as_aux_lemma => kernel_rfl⟩
  refine Bool.and_eq_true_iff.2 ⟨?_, by as_aux_lemma => kernel_rfl⟩
  refine Bool.and_eq_true_iff.2 ⟨?_, by as_aux_lemma => kernel_rfl⟩
  refine Bool.and_eq_true_iff.2 ⟨?_, by rw [fact_make]; rfl⟩
  refine Bool.and_eq_true_iff.2 ⟨?_, by rw [fact_final]; rfl⟩
  refine Bool.and_eq_true_iff.2 ⟨?_, fact_enters⟩
  refine Bool.and_eq_true_iff.2 ⟨?_, by as_aux_lemma => kernel_rfl⟩
  refine Bool.and_eq_true_iff.2 ⟨?_, by as_aux_lemma => kernel_rfl⟩
  refine Bool.and_eq_true_iff.2 ⟨?_, by as_aux_lemma => kernel_rfl⟩
  refine Bool.and_eq_true_iff.2 ⟨?_, by as_aux_lemma => kernel_rfl⟩
  refine Bool.and_eq_true_iff.2 ⟨?_, by as_aux_lemma => kernel_rfl⟩
  refine Bool.and_eq_true_iff.2 ⟨?_, by as_aux_lemma => kernel_rfl⟩
  refine Bool.and_eq_true_iff.2 ⟨?_, by as_aux_lemma => kernel_rfl⟩
  refine Bool.and_eq_true_iff.2 ⟨?_, by as_aux_lemma => kernel_rfl⟩
  refine Bool.and_eq_true_iff.2 ⟨?_, by as_aux_lemma => kernel_rfl⟩
  refine Bool.and_eq_true_iff.2 ⟨?_, by as_aux_lemma => kernel_rfl⟩
  refine Bool.and_eq_true_iff.2 ⟨?_, by as_aux_lemma => kernel_rfl⟩
  refine Bool.and_eq_true_iff.2 ⟨?_, by as_aux_lemma => kernel_rfl⟩
  refine Bool.and_eq_true_iff.2 ⟨?_, by as_aux_lemma => kernel_rfl⟩
  refine Bool.and_eq_true_iff.2 ⟨?_, by as_aux_lemma => kernel_rfl⟩
  refine Bool.and_eq_true_iff.2 ⟨?_, by as_aux_lemma => kernel_rfl⟩
  refine Bool.and_eq_true_iff.2 ⟨?_, by as_aux_lemma => kernel_rfl⟩
  refine Bool.and_eq_true_iff.2 ⟨?_, by as_aux_lemma => kernel_rfl⟩
  refine Bool.and_eq_true_iff.2 ⟨?_, by as_aux_lemma => kernel_rfl⟩
  refine Bool.and_eq_true_iff.2 ⟨?_, by as_aux_lemma => kernel_rfl⟩
  refine Bool.and_eq_true_iff.2 ⟨?_, by as_aux_lemma => kernel_rfl⟩
  refine Bool.and_eq_true_iff.2 ⟨?_, by as_aux_lemma => kernel_rfl⟩
  refine Bool.and_eq_true_iff.2 ⟨?_, by as_aux_lemma => kernel_rfl⟩
  refine Bool.and_eq_true_iff.2 ⟨?_, by as_aux_lemma => kernel_rfl⟩
  as_aux_lemma => kernel_rfl
theorem sectorsOf_holds : Rows.FnExactSectorsOfSaid :=
  OpenClaim.holds_of_wide 7 Try.f7 rfl rfl rfl rfl rfl rfl rfl ⟨rfl, rfl, rfl, rfl, rfl⟩ rfl rfl rfl rfl rfl (by as_aux_lemma => kernel_rfl) Try.func7 closedSectorsOf
    (of_decide_eq_true (by as_aux_lemma => kernel_rfl)) (by unfold Func.isWrapper; rw [if_neg (by decide +kernel)]; exact ⟨rfl, rfl⟩)
    (fun os started H enc _ => liftedSectorsOf os started H enc)
#print axioms sectorsOf_holds
end Go.Proofs.Yteopkbeokiomlaa
