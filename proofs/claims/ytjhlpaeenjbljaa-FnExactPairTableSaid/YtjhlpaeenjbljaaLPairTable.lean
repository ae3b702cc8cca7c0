/- The law FnExactPairTable of the laws package returns true for every scale, valid or not; it reads behind the call as before it. No condition. -/
import Derived.Test.YtjhlpaeenjbljaaRows
import Derived.Test.YtjhlpaeenjbljaaPn
import Derived.Test.YtjhlpaeenjbljaaRs
import Derived.Test.YtjhlpaeenjbljaaMk
import Derived.Test.YtjhlpaeenjbljaaOb
import Derived.Test.YtjhlpaeenjbljaaFacts
import Derived.ProofKit
import Derived.Carry
import Derived.Lib.SmallJoins
namespace Go.Proofs.Ytjhlpaeenjbljaa
open Go.RowKit Go.Sort

set_option maxRecDepth 20000 in
set_option maxHeartbeats 4000000 in
theorem lawPairTable (a b : Int) (A : Option Addr) (cap : Nat) (xs : List (Int × Int)) (n : Int) (kb : Bool) (u v : Int) (ys : List Obv) (C : Int) (w : World) (hr : RawF w (.slice A xs.length cap) xs) (hn : xs.length ≤ 1048576) (hys : ys.length ≤ 1048576)
    (hs : ∀ (A : Option Addr) (c : Nat) (w : World), xs.length ≤ c → Hid (RdF w A xs) → Calls Try.prog 41 #[scl a b A xs.length c] w fun e w' => GivesTb w w' e n kb u v ys C)
    (hi : ∀ (A : Option Addr) (c : Nat) (w : World), xs.length ≤ c → Hid (RdF w A xs) → Calls Try.prog 42 #[scl a b A xs.length c] w fun e w' => GivesTb w w' e n kb u v ys C) :
    Calls Try.prog 9 #[scl a b A xs.length cap] w fun x w' => x = .returned (.bool true) ∧ Gr w w' := by
  have HS := hid hs; have HI := hid hi; have HR := hid hr
  clear hs hi hr
  go_enter Try.func9, Try.ntmps9
  go_wp2_with fail
  refine (szSc_yes _ _ _ _ _ _ _ (by omega) (by omega)).mono ?_
  rintro e w1 ⟨rfl, hg1⟩
  obtain ⟨x1_0, hz1, g1⟩ := alloc1 hg1
  obtain ⟨_, _, _⟩ := cells3 x1_0
  have _ := fz x1_0
  have _ := ltb x1_0
  have X1_0 := hid x1_0; clear x1_0
  have G1 := hid (g1)
  clear hg1 g1
  go_wp2_with fail
  refine (toSc_any _ _ _ _ xs _ hn (HR.out.keep G1.out)).mono ?_
  rintro e wa ⟨ga, rfl, xa, _, hga⟩
  have XA := hid xa; have GA := hid hga
  clear xa hga
  go_wp2_with fail
  refine (HS.out _ _ _ (Nat.le_refl _) (hid (RdF.of_block XA.out))).mono ?_
  rintro e wc ⟨A3, c3, rfl, oc, hgc⟩
  have BC := hid (hgc.keep (GA.out.keep X1_0.out))
  have o3 := own_base (own_gr oc ((Gr.refl wc).al (.cells #[.int .i64 n, .slice A3 ys.length c3, .bool kb, .int .i64 u, .int .i64 v] 50))) GA.out.size
  have v3 := (alloc1 (w := wc) (A := (.cells #[.int .i64 n, .slice A3 ys.length c3, .bool kb, .int .i64 u, .int .i64 v] 50)) (Gr.refl _)).1
  have hg3 := (GA.out.trans hgc).trans ((Gr.refl wc).al (.cells #[.int .i64 n, .slice A3 ys.length c3, .bool kb, .int .i64 u, .int .i64 v] 50))
  clear oc hgc XA GA
  have L3 := hid (own_lt o3); have O3 := hid o3; have V3 := hid v3; have G3 := hid (G1.out.trans hg3); have B3 := hid (hg3.keep X1_0.out)
  have Z3 := hid (ltb v3); have HW3 := hid hg3.size; have HB2 := hid (ltb X1_0.out)
  clear hg3 o3 v3
  obtain ⟨_, _, _⟩ := cells3 BC.out
  have _ := ltb BC.out
  go_wp2_with fail
  refine (toSc_any _ _ _ _ xs _ hn (HR.out.keep G3.out)).mono ?_
  rintro e w4 ⟨g4, rfl, x4, b4, hg4⟩
  have X4 := hid x4; have Z4 := hid (ltb x4); have H4 := hid b4; have H34 := hid hg4.size
  clear x4 b4
  have V4 := hid (hg4.keep V3.out); have B4 := hid (hg4.keep B3.out); have O4 := hid (own_gr O3.out hg4); have G4 := hid (G3.out.trans hg4)
  clear hg4 V3 B3 O3
  go_wp2_with fail
  refine (HI.out _ _ _ (Nat.le_refl _) (hid (RdF.of_block (((Gr.refl _).al _).keep X4.out)))).mono ?_
  rintro e w5 ⟨Ag, cg, rfl, o5, hg5⟩
  have hal := ((Gr.refl w4).al (.cells #[.int .i64 a, .int .i64 b, .slice (some ⟨g4, 0, none⟩) xs.length xs.length] 27)).trans hg5
  have K5a := hg5.keep (alloc1 (w := w4) (A := (.cells #[.int .i64 a, .int .i64 b, .slice (some ⟨g4, 0, none⟩) xs.length xs.length] 27)) (Gr.refl _)).1
  have V5a := hid (hal.keep V4.out)
  have H45 := hid hal.size
  have LG := hid (own_lt o5)
  have OG5 := hid (own_gr o5 ((Gr.refl w5).al (.cells #[.int .i64 n, .slice Ag ys.length cg, .bool kb, .int .i64 u, .int .i64 v] 50)))
  have P5 := hid (alloc1 (w := w5) (A := (.cells #[.int .i64 n, .slice Ag ys.length cg, .bool kb, .int .i64 u, .int .i64 v] 50)) (Gr.refl _)).1
  have K5 := hid (((Gr.refl w5).al (.cells #[.int .i64 n, .slice Ag ys.length cg, .bool kb, .int .i64 u, .int .i64 v] 50)).keep K5a)
  have hal2 := hal.trans ((Gr.refl w5).al (.cells #[.int .i64 n, .slice Ag ys.length cg, .bool kb, .int .i64 u, .int .i64 v] 50))
  clear o5 hg5 K5a
  have X5 := hid (hal2.keep X4.out); have V5 := hid (hal2.keep V4.out); have B5 := hid (hal2.keep B4.out); have O5 := hid (own_gr O4.out hal2); have G5 := hid (G4.out.trans hal2)
  clear hal hal2 X4 V4 B4 O4
  obtain ⟨_, _, _, _, _⟩ := cells5 V5a.out
  have _ := ltb V5a.out
  go_wp2_with fail
  refine (eqTb_any _ _ _ _ _ _ _ _ ys _ (hid (RdO.of_own OG5.out)) (hid (RdO.of_own O5.out)) hys).mono ?_
  rintro e w6 ⟨rfl, hg6⟩
  have X6 := hid (hg6.keep X5.out); have V6 := hid (hg6.keep V5.out); have B6 := hid (hg6.keep B5.out); have K6 := hid (hg6.keep K5.out); have P6 := hid (hg6.keep P5.out); have O6 := hid (own_gr O5.out hg6); have OG6 := hid (own_gr OG5.out hg6); have G6 := hid (G5.out.trans hg6)
  clear hg6 X5 V5 B5 K5 P5 O5 OG5 V5a
  go_wp2_with fail
  refine wp_regG1 4 2 43 [3] [2, 3] [0, 1, 2] (fun g => scl a b (some ⟨g, 0, none⟩) xs.length xs.length) (.cells (flatA xs) 24) (by kernel_rfl) (by kernel_rfl) (by kernel_rfl) rfl rfl ?_
  apply Exists.intro; apply Exists.intro
  refine ⟨fun wb hb => ?_, ?_, fun g wb hb xg => ?_, fun g7 w7 hg7 _ _ => ?_⟩
  · obtain ⟨_, _, _⟩ := hb.at3 B6.out
    obtain ⟨_, _, _⟩ := hb.at3 K6.out
    simp only [headOps, List.contains, List.elem, Nat.reduceAdd, Nat.reduceBEq, reduceIte, Bool.false_eq_true, dumOp]
    repeat (first | go_big_quiet_step (first | (fail)) | quiet_step (fail))
    exact wpQuiet_nil rfl
  · intro o ho wb hb
    cases ho
    exact ⟨_, _, by kernel_rfl, toSc_any a b A cap xs wb hn (HR.out.keep (G6.out.trans hb))⟩
  · obtain ⟨_, _, _⟩ := hb.at3 B6.out
    obtain ⟨_, _, _⟩ := hb.at3 K6.out
    simp only [headOps, List.contains, List.elem, Nat.reduceAdd, Nat.reduceBEq, reduceIte, Bool.false_eq_true, dumOp]
    repeat (first | go_big_quiet_step (first | (go_at_call 15; exact Calls.of_gr (eqSc_any _ _ _ _ _ _ xs _ (hid ((RdF.of_block X6.out).keep (hb.trans ⟨⟨_, _⟩, rfl⟩))) (hid ((RdF.of_block xg).keep ⟨⟨_, _⟩, rfl⟩)) hn))) | quiet_step (fail))
    exact wpQuiet_nil rfl
  have X7 := hid (hg7.keep X6.out); have V7 := hid (hg7.keep V6.out); have B7 := hid (hg7.keep B6.out); have K7 := hid (hg7.keep K6.out); have P7 := hid (hg7.keep P6.out); have O7 := hid (own_gr O6.out hg7); have OG7 := hid (own_gr OG6.out hg7); have G7 := hid (G6.out.trans hg7)
  clear hg7 X6 V6 B6 K6 P6 O6 OG6
  obtain ⟨_, _, _⟩ := cells3 K7.out
  simp only [List.drop_succ_cons, List.drop_zero]
  go_wp2_with fail
  refine (markSc_any a b g4 xs.length xs.length 1 (flatA xs) _ _ X7 (by unfold flatA; simp [flatL_len]) hn (by omega) (by omega)).mono ?_
  rintro e w8 ⟨rfl, _, on8⟩
  have OG8 := hid (own_only OG7.out on8 (fun ad he => by have h := (LG.out ad he).1; have := Z4.out; simp at h; omega))
  have R8 := hid ((RdO.of_own O7.out).only on8 (fun ad he => Nat.ne_of_lt (Nat.lt_of_lt_of_le (L3.out ad he).2 H4.out)))
  have V8 := hid (on8.1 _ _ (Nat.ne_of_lt (Nat.lt_of_lt_of_le Z3.out H4.out)) V7.out)
  have P8 := hid (on8.1 _ _ (Nat.ne_of_gt (Nat.lt_of_lt_of_le Z4.out H45.out)) P7.out)
  have B8 := hid (on8.1 _ _ (Nat.ne_of_lt (Nat.lt_of_lt_of_le HB2.out (Nat.le_trans HW3.out H4.out))) B7.out)
  have G8 := hid (on8.2 w G7.out (Nat.le_trans G3.out.size H4.out))
  clear on8 OG7 O7 X7 V7 P7 B7 K7
  obtain ⟨_, _, _, _, _⟩ := cells5 V8.out
  have _ := ltb V8.out
  obtain ⟨_, _, _, _, _⟩ := cells5 P8.out
  have _ := ltb P8.out
  go_wp2_with fail
  refine (eqTb_any _ _ _ _ _ _ _ _ ys _ (hid (RdO.of_own OG8.out)) R8 hys).mono ?_
  rintro e w9 ⟨rfl, g9⟩
  have OG9 := hid (own_gr OG8.out g9); have R9 := hid (R8.out.keep g9); have V9 := hid (g9.keep V8.out); have P9 := hid (g9.keep P8.out); have B9 := hid (g9.keep B8.out); have G9 := hid (G8.out.trans g9)
  clear g9 OG8 R8 V8 P8 B8
  obtain ⟨_, _, _, _, _⟩ := cells5 P9.out
  have _ := ltb P9.out
  go_wp2_with fail
  refine (markOwnTb _ _ _ _ _ _ ys _ _ 1 _ OG9 hys (by omega) (by omega)).mono ?_
  rintro e w10 ⟨rfl, ⟨gg, hgg, on10⟩, m10, ot10⟩
  have hgw : w4.heap.size < gg := Nat.lt_of_lt_of_le (by simp) hgg
  have M10 := hid m10
  have R10 := hid (R9.out.only on10 (fun ad he => Nat.ne_of_lt (Nat.lt_trans (Nat.lt_of_lt_of_le (L3.out ad he).2 (Nat.le_trans H4.out (Nat.le_of_lt Z4.out))) hgw)))
  have V10 := hid (ot10 _ _ _ (by decide) V9.out)
  have P10 := hid (ot10 _ _ _ (by decide) P9.out)
  have B10 := hid (ot10 _ _ _ (by decide) B9.out)
  have G10 := hid (on10.2 w G9.out (Nat.le_trans G4.out.size (Nat.le_of_lt hgw)))
  clear on10 m10 ot10 OG9 R9 V9 P9 B9
  obtain ⟨_, _, _, _, _⟩ := cells5 P10.out
  have _ := ltb P10.out
  go_wp2_with fail
  refine (heldTb_any _ _ _ _ _ _ _ 1 _ M10 hys (by omega) (by omega)).mono ?_
  rintro e w11 ⟨rfl, g11⟩
  have M11 := hid (M10.out.keep g11); have R11 := hid (R10.out.keep g11); have V11 := hid (g11.keep V10.out); have P11 := hid (g11.keep P10.out); have B11 := hid (g11.keep B10.out); have G11 := hid (G10.out.trans g11)
  clear g11 M10 R10 V10 P10 B10
  obtain ⟨_, _, _⟩ := cells3 B11.out
  have _ := ltb B11.out
  go_wp2_with fail
  refine (toSc_any _ _ _ _ xs _ hn (HR.out.keep G11.out)).mono ?_
  rintro e w12 ⟨g12, rfl, x12, _, hg12⟩
  have X12 := hid x12; have M12 := hid (M11.out.keep hg12); have R12 := hid (R11.out.keep hg12); have V12 := hid (hg12.keep V11.out); have P12 := hid (hg12.keep P11.out); have G12 := hid (G11.out.trans hg12)
  clear x12 hg12 M11 R11 V11 P11 B11
  go_wp2_with fail
  refine (HI.out _ _ _ (Nat.le_refl _) (hid (RdF.of_block X12.out))).mono ?_
  rintro e w13 ⟨Ah, ch, rfl, o13, g13⟩
  have RH := hid (RdO.of_own (own_gr o13 ((Gr.refl w13).al (.cells #[.int .i64 n, .slice Ah ys.length ch, .bool kb, .int .i64 u, .int .i64 v] 50)))); have M13 := hid (M12.out.keep g13); have R13 := hid ((R12.out.keep g13).keep ((Gr.refl w13).al (.cells #[.int .i64 n, .slice Ah ys.length ch, .bool kb, .int .i64 u, .int .i64 v] 50))); have V13 := hid (g13.keep V12.out); have P13 := hid (g13.keep P12.out); have G13 := hid (G12.out.trans g13)
  clear o13 g13 M12 R12 V12 P12 X12
  obtain ⟨_, _, _, _, _⟩ := cells5 V13.out
  have _ := ltb V13.out
  go_wp2_with fail
  refine (eqTb_any _ _ _ _ _ _ _ _ ys _ RH R13 hys).mono ?_
  rintro e w14 ⟨rfl, g14'⟩
  obtain ⟨_, _, g14⟩ := alloc1 g14'
  have M14 := hid (M13.out.keep g14); have P14 := hid (g14.keep P13.out); have G14 := hid (G13.out.trans g14)
  clear g14' g14 M13 R13 RH P13
  obtain ⟨_, _, _, _, _⟩ := cells5 P14.out
  have _ := ltb P14.out
  go_wp2_with fail
  refine (heldTb_any _ _ _ _ _ _ _ 1 _ M14 hys (by omega) (by omega)).mono ?_
  rintro e w15 ⟨rfl, g15⟩
  have G15 := hid (G14.out.trans g15); clear g15 M14
  go_wp2_with fail
  go_ret
  exact ⟨rfl, G15.out⟩
set_option maxRecDepth 20000 in
set_option maxHeartbeats 400000 in
theorem lawPairTable_big (a b : Int) (A : Option Addr) (n cap : Nat) (w : World) (h : 1048576 < n) (h2 : n ≤ 9223372036854775807) :
    Calls Try.prog 9 #[scl a b A n cap] w fun e w' => e = .returned (.bool true) ∧ Gr w w' := by
  go_enter Try.func9, Try.ntmps9
  go_wp2_with fail
  refine (szSc_no _ _ _ _ _ _ _ (by omega) h2 (by omega) (by omega)).mono ?_
  rintro e w1 ⟨rfl, hg1⟩
  obtain ⟨x1_0, hz1, g1⟩ := alloc1 hg1
  obtain ⟨_, _, _⟩ := cells3 x1_0
  have _ := fz x1_0
  have _ := ltb x1_0
  have X1_0 := hid x1_0; clear x1_0
  have G1 := hid (g1)
  clear hg1 g1
  go_wp2
  go_ret
  exact ⟨rfl, G1.out⟩

open Go.ChangeShapes Go.WideShapes Go.ChangeAt Go.Joins
theorem laidOutPairTable : laidOutB Try.prog = true := by as_aux_lemma => kernel_rfl
set_option maxRecDepth 100000 in
theorem liftedPairTable (os : Os) (started : os.Started) (H : Type) (enc : TypeId × Value → H) :
    ReturnsInHanded {} Try.checked os 9 .any (Rows.fnExactPairTableSpec.pre6 enc Try.prog Try.f9 Rows.fnExactPairTableRow.domain false) (Rows.fnExactPairTableSpec.post enc Try.prog Try.f9 false true false false) := by
  refine returnsInHanded_of_change (C := Try.checked) ownNone started (by kernel_rfl) Try.func9
    (ChangeSpec.witness6 (enc := enc) (C := Try.checked) false ⟨#[], #[.agg #[.int .i64 0, .int .i64 0, .slice none 0 0]], []⟩ 8 (by kernel_rfl) (by kernel_rfl) (by kernel_rfl) (by kernel_rfl)) ?_
  intro W base args ds gs before hval0 hW _ _
  have hval : ∀ (j : Nat) t v, Try.f9.params[j]? = some t → args[j]? = some v → Value.okWide Try.prog W .any base t v := hval0
  have hW' := hW
  obtain ⟨p, q, hA0, hV, rfl, _, _⟩ := hW
  have hA : DataW.TrodAll enc Try.prog W 0 (fun _ => true) true Try.f9.params.toList args.toList ds p := hA0
  rw [Try.params9] at hA hval
  obtain ⟨u0, d0, rfl, rfl, h0⟩ := trodAll_one hA
  obtain ⟨rfl, rfl⟩ := trodVars_none hV
  clear hA0 hval0
  simp only [List.append_nil] at hW'
  have hlt : ∀ x ∈ p, x.block < W.heap.size := fun x hx => by simpa using hW'.lt x hx
  have done : ∀ (e : Ending) (W' : World), e = .returned (.bool true) ∧ Gr W W' → ∃ v, e = .returned v ∧ Rows.fnExactPairTableSpec.post enc Try.prog Try.f9 false true false false W #[u0] v W' := fun e W' ⟨he, hg⟩ => by
    subst he
    exact ⟨_, rfl, _, _, _, [], p, [], hW', trodAll_mk1 (shut_bool Try.underlying4 _), trodAll_mk1 (Below.trod laidOutPairTable (by kernel_rfl) (of_decide_eq_true (by kernel_rfl)) h0 hg.below hlt), rfl, hg.below.frame _, fun h => by cases h⟩
  obtain ⟨a, b, A, n, cap, rfl, hmax, xs, rfl, hraw⟩ := open_scale (hval 0 36 u0 rfl rfl) h0
  by_cases hn : xs.length ≤ 1048576
  · obtain ⟨n, kb, u, v, ys, C, hys, hs, hi⟩ := bothPairTable a b xs hn
    exact (lawPairTable a b A cap xs n kb u v ys C W hraw hn hys hs hi).mono done
  · exact (lawPairTable_big a b A xs.length cap W (by omega) hmax).mono done

set_option maxHeartbeats 2000000 in
theorem closedPairTable : joinedFacts Try.pinned.checked.prog 9 Try.f9 Rows.fnExactPairTableSpec Rows.fnExactPairTableRow = true := by
  unfold joinedFacts
  refine Bool.and_eq_true_iff.2 ⟨?_, by as_aux_lemma => kernel_rfl⟩
  refine Bool.and_eq_true_iff.2 ⟨?_, by as_aux_lemma => kernel_rfl⟩
  refine Bool.and_eq_true_iff.2 ⟨?_, by as_aux_lemma => kernel_rfl⟩
  refine Bool.and_eq_true_iff.2 ⟨?_, by as_aux_lemma => kernel_rfl⟩
  refine Bool.and_eq_true_iff.2 ⟨?_, by rw [fact_make]; rfl⟩
  refine Bool.and_eq_true_iff.2 ⟨?_, by rw [fact_final]; rfl⟩
  refine Bool.and_eq_true_iff.2 ⟨?_, fact_enters⟩
  refine Bool.and_eq_true_iff.2 ⟨?_, by as_aux_lemma => kernel_rfl⟩
  refine Bool.and_eq_true_iff.2 ⟨?_, by as_aux_lemma => kernel_rfl⟩
  refine Bool.and_eq_true_iff.2 ⟨?_, by as_aux_lemma => kernel_rfl⟩
  refine Bool.and_eq_true_iff.2 ⟨?_, by as_aux_lemma => kernel_rfl⟩
  refine Bool.and_eq_true_iff.2 ⟨?_, by as_aux_lemma => kernel_rfl⟩
  refine Bool.and_eq_true_iff.2 ⟨?_, by as_aux_lemma => kernel_rfl⟩
  refine Bool.and_eq_true_iff.2 ⟨?_, by as_aux_lemma => kernel_rfl⟩
  refine Bool.and_eq_true_iff.2 ⟨?_, by as_aux_lemma => kernel_rfl⟩
  refine Bool.and_eq_true_iff.2 ⟨?_, by as_aux_lemma => kernel_rfl⟩
  refine Bool.and_eq_true_iff.2 ⟨?_, by as_aux_lemma => kernel_rfl⟩
  refine Bool.and_eq_true_iff.2 ⟨?_, by as_aux_lemma => kernel_rfl⟩
  refine Bool.and_eq_true_iff.2 ⟨?_, by as_aux_lemma => kernel_rfl⟩
  refine Bool.and_eq_true_iff.2 ⟨?_, by as_aux_lemma => kernel_rfl⟩
  refine Bool.and_eq_true_iff.2 ⟨?_, by as_aux_lemma => kernel_rfl⟩
  refine Bool.and_eq_true_iff.2 ⟨?_, by as_aux_lemma => kernel_rfl⟩
  refine Bool.and_eq_true_iff.2 ⟨?_, by as_aux_lemma => kernel_rfl⟩
  refine Bool.and_eq_true_iff.2 ⟨?_, by as_aux_lemma => kernel_rfl⟩
  refine Bool.and_eq_true_iff.2 ⟨?_, by as_aux_lemma => kernel_rfl⟩
  refine Bool.and_eq_true_iff.2 ⟨?_, by as_aux_lemma => kernel_rfl⟩
  refine Bool.and_eq_true_iff.2 ⟨?_, by as_aux_lemma => kernel_rfl⟩
  refine Bool.and_eq_true_iff.2 ⟨?_, by as_aux_lemma => kernel_rfl⟩
  refine Bool.and_eq_true_iff.2 ⟨?_, by as_aux_lemma => kernel_rfl⟩
  refine Bool.and_eq_true_iff.2 ⟨?_, by as_aux_lemma => kernel_rfl⟩
  as_aux_lemma => kernel_rfl
theorem pairTable_holds : Rows.FnExactPairTableSaid :=
  OpenClaim.holds_of_wide 9 Try.f9 rfl rfl rfl rfl rfl rfl rfl ⟨rfl, rfl, rfl, rfl, rfl⟩ rfl rfl rfl rfl rfl (by as_aux_lemma => kernel_rfl) Try.func9 closedPairTable
    (of_decide_eq_true (by as_aux_lemma => kernel_rfl)) (by unfold Func.isWrapper; rw [if_neg (by decide +kernel)]; exact ⟨rfl, rfl⟩)
    (fun os started H enc _ => liftedPairTable os started H enc)
#print axioms pairTable_holds
end Go.Proofs.Ytjhlpaeenjbljaa
