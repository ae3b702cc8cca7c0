/- The law FnExactWithoutObs of the laws package returns true for all arguments, tables valid or not; they read behind the call as before it. No condition. -/
import Derived.Test.YtjhlpaeenjbljaaRows
import Derived.Test.YtjhlpaeenjbljaaWp
import Derived.Test.YtjhlpaeenjbljaaOb
import Derived.Test.YtjhlpaeenjbljaaRo
import Derived.Test.YtjhlpaeenjbljaaMk
import Derived.Test.YtjhlpaeenjbljaaRd
import Derived.Test.YtjhlpaeenjbljaaRegL
import Derived.Test.YtjhlpaeenjbljaaFacts
import Derived.ProofKit
import Derived.Carry
import Derived.Lib.SmallJoins
namespace Go.Proofs.Ytjhlpaeenjbljaa
open Go.RowKit Go.Sort

set_option maxRecDepth 20000 in
set_option maxHeartbeats 4000000 in
theorem lawWithoutObs (n : Int) (A : Option Addr) (cap : Nat) (b : Bool) (p q : Int) (xs : List Obv) (t0 : Int) (N : Int) (B : Bool) (U V : Int) (ys : List Obv) (C : Int) (w : World) (hr : RawO w (.slice A xs.length cap) xs) (hn : xs.length ≤ 1048576) (hys : ys.length ≤ 1048576)
    (hs : ∀ (g c : Nat) (w : World), xs.length ≤ c → Hid (RdO w (some ⟨g, 0, none⟩) xs) → Calls Try.prog 38 #[tbl n (some ⟨g, 0, none⟩) xs.length c b p q, .int .i64 t0] w fun e w' => GivesTb w w' e N B U V ys C)
    (hi : ∀ (g c : Nat) (w : World), xs.length ≤ c → Hid (RdO w (some ⟨g, 0, none⟩) xs) → Calls Try.prog 39 #[tbl n (some ⟨g, 0, none⟩) xs.length c b p q, .int .i64 t0] w fun e w' => GivesTb w w' e N B U V ys C) :
    Calls Try.prog 8 #[tbl n A xs.length cap b p q, .int .i64 t0] w fun x w' => x = .returned (.bool true) ∧ Gr w w' := by
  have HS := hid hs; have HI := hid hi; have HR := hid hr
  clear hs hi hr
  go_enter Try.func8, Try.ntmps8
  go_wp2_with fail
  refine (szTb_yes _ _ _ _ _ _ _ _ _ (by omega) (by omega)).mono ?_
  rintro e w1 ⟨rfl, hg1⟩
  obtain ⟨x1_0, hz1, g1⟩ := alloc1 hg1
  obtain ⟨_, _, _, _, _⟩ := cells5 x1_0
  have _ := fz x1_0
  have _ := ltb x1_0
  have X1_0 := hid x1_0; clear x1_0
  have G1 := hid (g1)
  clear hg1 g1
  have B1 := hid X1_0.out
  go_wp2_with fail
  refine (toTb_any _ _ _ _ _ _ xs _ hn (HR.out.keep G1.out)).mono ?_
  rintro x w2 ⟨g2, rfl, x2, _, hg2⟩
  have SZ12 := hid hg2.size
  have Y2 := hid x2; have B2 := hid (hg2.keep B1.out); have G2 := hid (G1.out.trans hg2); clear x2 hg2
  go_wp2_with fail
  refine (HS.out _ _ _ (Nat.le_refl _) (hid (RdO.of_block Y2.out))).mono ?_
  rintro x w3 ⟨A3, c3, rfl, o3, hg3⟩
  have SZ13 := hid (show w1.heap.size ≤ w3.heap.size from Nat.le_trans SZ12.out hg3.size)
  have L3 := hid (own_lt o3); have O3 := hid o3; have B3 := hid (hg3.keep B2.out); have G3 := hid (G2.out.trans hg3); clear o3 hg3 Y2 B2 B1
  obtain ⟨_, _, _, _, _⟩ := cells5 B3.out
  have _ := ltb B3.out
  go_wp2_with fail
  refine (toTb_any _ _ _ _ _ _ xs _ hn (HR.out.keep (G3.out.al _))).mono ?_
  rintro x w4 ⟨g4, rfl, x4, z4, hg4⟩
  obtain ⟨v4, _, g4'⟩ := alloc1 hg4
  have X4 := hid x4; have O4 := hid (own_gr O3.out g4'); have V4 := hid v4; have B4 := hid (g4'.keep B3.out); have G4 := hid (G3.out.trans g4')
  have Z4 := hid (show w3.heap.size + 1 ≤ g4 by simpa using z4); have S4 := hid (ltb x4); have HW4 := hid G4.out.size
  clear x4 z4 hg4 v4 g4' O3 B3
  go_wp2_with fail
  refine (HI.out _ _ _ (Nat.le_refl _) (hid (RdO.of_block (((Gr.refl _).al _).keep X4.out)))).mono ?_
  rintro x w5 ⟨A5, c5, rfl, o5, hg5⟩
  obtain ⟨lx5, _, g5⟩ := alloc1 hg5
  have LG := hid (own_lt (own_base o5 (show w4.heap.size + 1 ≤ _ by simp))); have OG5 := hid (own_base o5 (show w4.heap.size + 1 ≤ _ by simp)); have O5 := hid (own_gr O4.out g5); have LX5 := hid lx5; have X5 := hid (g5.keep X4.out); have V5 := hid (g5.keep V4.out); have B5 := hid (g5.keep B4.out); have G5 := hid (G4.out.trans g5)
  clear o5 hg5 lx5 g5 X4 V4 B4 O4
  obtain ⟨_, _, _, _, _⟩ := cells5 V5.out
  have _ := ltb V5.out
  go_wp2_with fail
  refine (eqTb_any _ _ _ _ _ _ _ _ ys _ (hid (RdO.of_own (own_gr OG5.out ((Gr.refl _).al _)))) (hid (RdO.of_own (own_gr O5.out ((Gr.refl _).al _)))) hys).mono ?_
  rintro e w6 ⟨rfl, hg6⟩
  obtain ⟨p6, _, g6⟩ := alloc1 hg6
  have OG6 := hid (own_gr OG5.out g6); have O6 := hid (own_gr O5.out g6); have LX6 := hid (g6.keep LX5.out); have X6 := hid (g6.keep X5.out); have V6 := hid (g6.keep V5.out); have P6 := hid p6; have B6 := hid (g6.keep B5.out); have G6 := hid (G5.out.trans g6)
  have S6 := hid (Nat.lt_of_lt_of_le (ltb LX5.out) (Nat.le_refl _))
  clear hg6 p6 g6 OG5 O5 LX5 X5 V5 B5
  go_wp2_with fail
  refine wp_regL1 (fun g : Nat => tbl n (some ⟨g, 0, none⟩) xs.length xs.length b p q) (fun g w => w.heap[g]? = some (.cells (rowO xs []) 104)) 4 2 47 [0, 0, 0, 1] [2, 3] [0, 1, 2] (by kernel_rfl) (by kernel_rfl) (by kernel_rfl) rfl (by decide) (fun g g' h => by simpa using h) (fun g w w' h hg => hg.keep h) ?_
  apply Exists.intro; apply Exists.intro
  refine ⟨fun wb hb => ?_, fun o ho wb hb => ?_, fun g wb hb hg => ?_, fun g7 w7 hg7 x7 => ?_⟩
  · obtain ⟨_, _, _, _, _⟩ := hb.at5 LX6.out
    obtain ⟨_, _, _, _, _⟩ := hb.at5 B6.out
    simp only [headOps, List.contains, List.elem, Nat.reduceAdd, Nat.reduceBEq, reduceIte, Bool.false_eq_true, dumOp]
    repeat (first | go_big_quiet_step (first | (fail)) | quiet_step (fail))
    exact wpQuiet_nil rfl
  · cases ho
    exact ⟨_, _, by kernel_rfl, (toTb_any _ _ _ _ _ _ xs wb hn (HR.out.keep (G6.out.trans hb))).mono fun e w' ⟨g, he, hx, _, hg⟩ => ⟨g, he, hx, hg⟩⟩
  · have HXA := hid (hb.keep X6.out); have HXB := hid hg
    simp only [Act.put, List.setIfInBounds_toArray, List.set_cons_succ, List.set_cons_zero]
    simp only [headOps, List.contains, List.elem, Nat.reduceAdd, Nat.reduceBEq, reduceIte, Bool.false_eq_true, dumOp]
    repeat (first | go_big_quiet_step (first | (go_at_call 29; exact Calls.of_gr (eqTb_any _ _ _ _ _ _ _ _ xs _ (hid (RdO.of_block (Gr.keep (w := wb) ⟨⟨_, _⟩, rfl⟩ HXA.out))) (hid (RdO.of_block (Gr.keep (w := wb) ⟨⟨_, _⟩, rfl⟩ HXB.out))) hn))) | quiet_step (fail))
    exact wpQuiet_nil rfl
  simp only [List.drop_succ_cons, List.drop_zero]
  have OG7 := hid (own_gr OG6.out hg7); have O7 := hid (own_gr O6.out hg7); have LX7 := hid (hg7.keep LX6.out); have X7 := hid (hg7.keep X6.out); have V7 := hid (hg7.keep V6.out); have P7 := hid (hg7.keep P6.out); have B7 := hid (hg7.keep B6.out); have G7 := hid (G6.out.trans hg7)
  clear hg7 x7 OG6 O6 LX6 X6 V6 P6 B6
  obtain ⟨_, _, _, _, _⟩ := cells5 LX7.out
  have _ := ltb LX7.out
  go_wp2_with fail
  refine (markTb_any n g4 xs.length xs.length b p q 1 (rowO xs []) _ _ X7 (by rw [rowO_size]; simp) hn (by omega) (by omega)).mono ?_
  rintro e w9 ⟨rfl, on9⟩
  have OG9 := hid (own_only OG7.out on9 (fun ad he => by have := (LG.out ad he).1; have := S4.out; omega))
  have R9 := hid ((RdO.of_own O7.out).only on9 (fun ad he => by have := (L3.out ad he).2; have := Z4.out; omega))
  have V9 := hid (on9.1 _ _ (by have := Z4.out; omega) V7.out)
  have P9 := hid (on9.1 _ _ (by have := S4.out; have := S6.out; omega) P7.out)
  have B9 := hid (on9.1 _ _ (by have := Z4.out; have := SZ13.out; have := ltb X1_0.out; omega) B7.out)
  have G9 := hid (on9.2 w G7.out (by have := Z4.out; have := G3.out.size; omega))
  clear on9 OG7 O7 X7 V7 P7 B7
  obtain ⟨_, _, _, _, _⟩ := cells5 V9.out
  obtain ⟨_, _, _, _, _⟩ := cells5 P9.out
  have _ := ltb V9.out; have _ := ltb P9.out
  go_wp2_with fail
  refine (eqTb_any _ _ _ _ _ _ _ _ ys _ (hid (RdO.of_own OG9.out)) R9 hys).mono ?_
  rintro e w10 ⟨rfl, g10⟩
  have OG10 := hid (own_gr OG9.out g10); have R10 := hid (R9.out.keep g10); have V10 := hid (g10.keep V9.out); have P10 := hid (g10.keep P9.out); have B10 := hid (g10.keep B9.out); have G10 := hid (G9.out.trans g10)
  clear g10 OG9 R9 V9 P9 B9
  obtain ⟨_, _, _, _, _⟩ := cells5 P10.out
  have _ := ltb P10.out
  go_wp2_with fail
  refine (markOwnTb _ _ _ _ _ _ ys _ _ 1 _ OG10 hys (by omega) (by omega)).mono ?_
  rintro e w11 ⟨rfl, ⟨gg, hgg, on11⟩, m11, ot11⟩
  have M11 := hid m11
  have R11 := hid (R10.out.only on11 (fun ad he => by have := (L3.out ad he).2; have := Z4.out; have := S4.out; omega))
  have V11 := hid (ot11 _ _ _ (by decide) V10.out)
  have P11 := hid (ot11 _ _ _ (by decide) P10.out)
  have B11 := hid (ot11 _ _ _ (by decide) B10.out)
  have G11 := hid (on11.2 w G10.out (by have := HW4.out; omega))
  clear on11 m11 ot11 OG10 R10 V10 P10 B10
  obtain ⟨_, _, _, _, _⟩ := cells5 P11.out
  have _ := ltb P11.out
  go_wp2_with fail
  refine (heldTb_any _ _ _ _ _ _ _ 1 _ M11 hys (by omega) (by omega)).mono ?_
  rintro e w12 ⟨rfl, g12⟩
  have M12 := hid (M11.out.keep g12); have R12 := hid (R11.out.keep g12); have V12 := hid (g12.keep V11.out); have P12 := hid (g12.keep P11.out); have B12 := hid (g12.keep B11.out); have G12 := hid (G11.out.trans g12)
  clear g12 M11 R11 V11 P11 B11
  obtain ⟨_, _, _, _, _⟩ := cells5 B12.out
  have _ := ltb B12.out
  go_wp2_with fail
  refine (toTb_any _ _ _ _ _ _ xs _ hn (HR.out.keep G12.out)).mono ?_
  rintro x w13 ⟨g13, rfl, x13, _, hg13⟩
  have Y13 := hid x13; have M13 := hid (M12.out.keep hg13); have R13 := hid (R12.out.keep hg13); have V13 := hid (hg13.keep V12.out); have P13 := hid (hg13.keep P12.out); have G13 := hid (G12.out.trans hg13)
  clear x13 hg13 M12 R12 V12 P12 B12
  go_wp2_with fail
  refine (HI.out _ _ _ (Nat.le_refl _) (hid (RdO.of_block Y13.out))).mono ?_
  rintro x w14 ⟨A14, c14, rfl, o14, hg14⟩
  have RH := hid (RdO.of_own o14); have M14 := hid (M13.out.keep hg14); have R14 := hid (R13.out.keep hg14); have V14 := hid (hg14.keep V13.out); have P14 := hid (hg14.keep P13.out); have G14 := hid (G13.out.trans hg14)
  clear o14 hg14 M13 R13 V13 P13 Y13
  obtain ⟨_, _, _, _, _⟩ := cells5 V14.out
  have _ := ltb V14.out
  go_wp2_with fail
  refine (eqTb_any _ _ _ _ _ _ _ _ ys _ (hid (RH.out.keep ((Gr.refl _).al _))) (hid (R14.out.keep ((Gr.refl _).al _))) hys).mono ?_
  rintro e w15 ⟨rfl, g15'⟩
  obtain ⟨_, _, g15⟩ := alloc1 g15'
  have M15 := hid (M14.out.keep g15); have P15 := hid (g15.keep P14.out); have G15 := hid (G14.out.trans g15)
  clear g15' g15 M14 R14 RH P14 V14
  obtain ⟨_, _, _, _, _⟩ := cells5 P15.out
  have _ := ltb P15.out
  go_wp2_with fail
  refine (heldTb_any _ _ _ _ _ _ _ 1 _ M15 hys (by omega) (by omega)).mono ?_
  rintro e w16 ⟨rfl, g16⟩
  have G16 := hid (G15.out.trans g16); clear g16 M15 P15
  go_wp2_with fail
  go_ret
  exact ⟨rfl, G16.out⟩
set_option maxRecDepth 20000 in
set_option maxHeartbeats 400000 in
theorem lawWithoutObs_big (n : Int) (A : Option Addr) (m cap : Nat) (b : Bool) (p q : Int) (t0 : Int) (w : World) (h : 1048576 < m) (h2 : m ≤ 9223372036854775807) :
    Calls Try.prog 8 #[tbl n A m cap b p q, .int .i64 t0] w fun e w' => e = .returned (.bool true) ∧ Gr w w' := by
  go_enter Try.func8, Try.ntmps8
  go_wp2_with fail
  refine (szTb_no _ _ _ _ _ _ _ _ _ (by omega) h2 (by omega) (by omega)).mono ?_
  rintro e w1 ⟨rfl, hg1⟩
  obtain ⟨x1_0, hz1, g1⟩ := alloc1 hg1
  obtain ⟨_, _, _, _, _⟩ := cells5 x1_0
  have _ := fz x1_0
  have _ := ltb x1_0
  have X1_0 := hid x1_0; clear x1_0
  have G1 := hid (g1)
  clear hg1 g1
  go_wp2
  go_ret
  exact ⟨rfl, G1.out⟩

open Go.ChangeShapes Go.WideShapes Go.ChangeAt Go.Joins
theorem laidOutWithoutObs : laidOutB Try.prog = true := by as_aux_lemma => kernel_rfl
set_option maxRecDepth 100000 in
theorem liftedWithoutObs (os : Os) (started : os.Started) (H : Type) (enc : TypeId × Value → H) :
    ReturnsInHanded {} Try.checked os 8 .any (Rows.fnExactWithoutObsSpec.pre6 enc Try.prog Try.f8 Rows.fnExactWithoutObsRow.domain false) (Rows.fnExactWithoutObsSpec.post enc Try.prog Try.f8 false true false false) := by
  refine returnsInHanded_of_change (C := Try.checked) ownNone started (by kernel_rfl) Try.func8
    (ChangeSpec.witness6 (enc := enc) (C := Try.checked) false ⟨#[], #[.agg #[.int .i64 0, .slice none 0 0, .bool false, .int .i64 0, .int .i64 0], .int .i64 0], []⟩ 8 (by kernel_rfl) (by kernel_rfl) (by kernel_rfl) (by kernel_rfl)) ?_
  intro W base args ds gs before hval0 hW _ _
  have hval : ∀ (j : Nat) t v, Try.f8.params[j]? = some t → args[j]? = some v → Value.okWide Try.prog W .any base t v := hval0
  have hW' := hW
  obtain ⟨p, q, hA0, hV, rfl, _, _⟩ := hW
  have hA : DataW.TrodAll enc Try.prog W 0 (fun _ => true) true Try.f8.params.toList args.toList ds p := hA0
  rw [Try.params8] at hA hval
  obtain ⟨v0, v1, d0, d1, p_0, p_1, rfl, rfl, rfl, h0, h1⟩ := trodAll_two hA
  obtain ⟨rfl, rfl⟩ := trodVars_none hV
  clear hA0 hval0
  simp only [List.append_nil] at hW'
  have hlt : ∀ x ∈ p_0 ++ p_1, x.block < W.heap.size := fun x hx => by simpa using hW'.lt x (by simpa using hx)
  have done : ∀ (e : Ending) (W' : World), e = .returned (.bool true) ∧ Gr W W' → ∃ v, e = .returned v ∧ Rows.fnExactWithoutObsSpec.post enc Try.prog Try.f8 false true false false W #[v0, v1] v W' := fun e W' ⟨he, hg⟩ => by
    subst he
    exact ⟨_, rfl, _, _, _, [], p_0 ++ p_1, [], hW', trodAll_mk1 (shut_bool Try.underlying4 _), trodAll_mk2 (Below.trod laidOutWithoutObs (by kernel_rfl) (of_decide_eq_true (by kernel_rfl)) h0 hg.below fun x hx => hlt x (by simp [hx])) (Below.trod laidOutWithoutObs (by kernel_rfl) (of_decide_eq_true (by kernel_rfl)) h1 hg.below fun x hx => hlt x (by simp [hx])), rfl, hg.below.frame _, fun h => by cases h⟩
  obtain ⟨n, A, m, cap, b, p', q', rfl, hmax, xs, rfl, hraw, hw⟩ := open_table (hval 0 43 v0 rfl rfl) h0
  obtain ⟨t0, rfl, rfl, rfl, _⟩ := open_i64 (hval 1 2 v1 rfl rfl) h1
  by_cases hn : xs.length ≤ 1048576
  · obtain ⟨N, B, U, V, ys, C, hys, hs, hi⟩ := bothWithoutObs n b p' q' xs t0 hn hw
    exact (lawWithoutObs n A cap b p' q' xs t0 N B U V ys C W hraw hn hys hs hi).mono done
  · exact (lawWithoutObs_big n A xs.length cap b p' q' t0 W (by omega) hmax).mono done

set_option maxHeartbeats 2000000 in
theorem closedWithoutObs : joinedFacts Try.pinned.checked.prog 8 Try.f8 Rows.fnExactWithoutObsSpec Rows.fnExactWithoutObsRow = true := by
  unfold joinedFacts
  refine Bool.and_eq_true_iff.2 ⟨?_, by as_aux_lemma => kernel_rfl⟩
  refine Bool.and_eq_true_iff.2 ⟨?_, by as_aux_lemma => kernel_rfl⟩
  refine Bool.and_eq_true_iff.2 ⟨?_, by as_aux_lemma => kernel_rfl⟩
  refine Bool.and_eq_true_iff.2 ⟨?_, by as_aux_lemma => kernel_rfl⟩
  refine Bool.and_eq_true_iff.2 ⟨?_, by rw [fact_make]; rfl⟩
  refine Bool.and_eq_true_iff.2 ⟨?_, by rw [fact_final]; rfl⟩
  refine Bool.and_eq_true_iff.2 ⟨?_, fact_enters⟩
  refine Bool.and_eq_true_iff.2 ⟨?_, by as_aux_lemma => kernel_rfl⟩
  refine Bool.and_eq_true_iff.2 ⟨?_, by as_aux_lemma => kernel_rfl⟩
  refine Bool.and_eq_true_iff.2 ⟨?_, by as_aux_lemma => kernel_rfl⟩
  refine Bool.and_eq_true_iff.2 ⟨?_, by as_aux_lemma => kernel_rfl⟩
  refine Bool.and_eq_true_iff.2 ⟨?_, by as_aux_lemma => kernel_rfl⟩
  refine Bool.and_eq_true_iff.2 ⟨?_, by as_aux_lemma => kernel_rfl⟩
  refine Bool.and_eq_true_iff.2 ⟨?_, by as_aux_lemma => kernel_rfl⟩
  refine Bool.and_eq_true_iff.2 ⟨?_, by as_aux_lemma => kernel_rfl⟩
  refine Bool.and_eq_true_iff.2 ⟨?_, by as_aux_lemma => kernel_rfl⟩
  refine Bool.and_eq_true_iff.2 ⟨?_, by as_aux_lemma => kernel_rfl⟩
  refine Bool.and_eq_true_iff.2 ⟨?_, by as_aux_lemma => kernel_rfl⟩
  refine Bool.and_eq_true_iff.2 ⟨?_, by as_aux_lemma => kernel_rfl⟩
  refine Bool.and_eq_true_iff.2 ⟨?_, by as_aux_lemma => kernel_rfl⟩
  refine Bool.and_eq_true_iff.2 ⟨?_, by as_aux_lemma => kernel_rfl⟩
  refine Bool.and_eq_true_iff.2 ⟨?_, by as_aux_lemma => kernel_rfl⟩
  refine Bool.and_eq_true_iff.2 ⟨?_, by as_aux_lemma => kernel_rfl⟩
  refine Bool.and_eq_true_iff.2 ⟨?_, by as_aux_lemma => kernel_rfl⟩
  refine Bool.and_eq_true_iff.2 ⟨?_, by as_aux_lemma => kernel_rfl⟩
  refine Bool.and_eq_true_iff.2 ⟨?_, by as_aux_lemma => kernel_rfl⟩
  refine Bool.and_eq_true_iff.2 ⟨?_, by as_aux_lemma => kernel_rfl⟩
  refine Bool.and_eq_true_iff.2 ⟨?_, by as_aux_lemma => kernel_rfl⟩
  refine Bool.and_eq_true_iff.2 ⟨?_, by as_aux_lemma => kernel_rfl⟩
  refine Bool.and_eq_true_iff.2 ⟨?_, by as_aux_lemma => kernel_rfl⟩
  as_aux_lemma => kernel_rfl
theorem withoutObs_holds : Rows.FnExactWithoutObsSaid :=
  OpenClaim.holds_of_wide 8 Try.f8 rfl rfl rfl rfl rfl rfl rfl ⟨rfl, rfl, rfl, rfl, rfl⟩ rfl rfl rfl rfl rfl (by as_aux_lemma => kernel_rfl) Try.func8 closedWithoutObs
    (of_decide_eq_true (by as_aux_lemma => kernel_rfl)) (by unfold Func.isWrapper; rw [if_neg (by decide +kernel)]; exact ⟨rfl, rfl⟩)
    (fun os started H enc _ => liftedWithoutObs os started H enc)
#print axioms withoutObs_holds
end Go.Proofs.Ytjhlpaeenjbljaa
