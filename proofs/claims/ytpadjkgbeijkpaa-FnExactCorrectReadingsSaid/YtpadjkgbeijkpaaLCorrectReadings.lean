/- The law FnExactCorrectReadings of the laws package returns true for every reader and every slice of readings, valid or not; they read behind the call as before it. No condition. -/
import Derived.Test.YtpadjkgbeijkpaaRows
import Derived.Test.YtpadjkgbeijkpaaKy
import Derived.Test.YtpadjkgbeijkpaaMn
import Derived.Test.YtpadjkgbeijkpaaSq
import Derived.Test.YtpadjkgbeijkpaaRr
import Derived.Test.YtpadjkgbeijkpaaRj
import Derived.Test.YtpadjkgbeijkpaaFacts
import Derived.ProofKit
import Derived.Carry
import Derived.Lib.SmallJoins
namespace Go.Proofs.Ytpadjkgbeijkpaa
open Go.RowKit Go.Sort

set_option maxRecDepth 20000 in
set_option maxHeartbeats 400000 in
theorem lawCorrectReadings_big0 (s0 : ByteArray) (b0 u0 : Int) (o0 : Bool) (A1 : Option Addr) (n1 cap1 : Nat) (w : World) (hm : n1 ≤ 1048576) (h : 1048576 < s0.size) (h2 : s0.size ≤ 9223372036854775807) :
    Calls Try.prog 7 #[rdr s0 b0 u0 o0, .slice A1 n1 cap1] w fun e w' => e = .returned (.bool true) ∧ Gr w w' := by
  go_enter Try.func7, Try.ntmps7
  go_wp2_with fail
  refine (szR_no _ _ _ _ _ h h2).mono ?_
  rintro e w1 ⟨rfl, hg1⟩
  obtain ⟨x1_0, hz1, g1⟩ := alloc1 hg1
  obtain ⟨_, _, _, _⟩ := cells4 x1_0
  have _ := fz x1_0
  have _ := ltb x1_0
  have X1_0 := hid x1_0; clear x1_0
  have G1 := hid (g1)
  clear hg1 g1
  go_wp2
  go_ret
  exact ⟨rfl, G1.out⟩
set_option maxRecDepth 20000 in
set_option maxHeartbeats 400000 in
theorem lawCorrectReadings_big1 (s0 : ByteArray) (b0 u0 : Int) (o0 : Bool) (A1 : Option Addr) (n1 cap1 : Nat) (w : World) (h : 1048576 < n1) (h2 : n1 ≤ 9223372036854775807) :
    Calls Try.prog 7 #[rdr s0 b0 u0 o0, .slice A1 n1 cap1] w fun e w' => e = .returned (.bool true) ∧ Gr w w' := by
  go_enter Try.func7, Try.ntmps7
  go_wp2
  go_ret
  exact ⟨rfl, (Gr.refl _).al _⟩
set_option maxRecDepth 20000 in
set_option maxHeartbeats 8000000 in
theorem lawCorrectReadings (s : ByteArray) (b u : Int) (o : Bool) (B : Option Addr) (cap : Nat) (ns : List Int) (ys : List Spv) (C : Int) (w : World) (hsz : s.size ≤ 1048576) (hm : ns.length ≤ 1048576) (hr : RawI w (.slice B ns.length cap) ns) (hys : ys.length ≤ 1048576)
    (hs : ∀ (B : Option Addr) (d : Nat) (w : World), Hid (RdI w B ns) → Calls Try.prog 32 #[rdr s b u o, .slice B ns.length d] w fun e w' => GivesN w w' e ys C)
    (hi : ∀ (B : Option Addr) (d : Nat) (w : World), Hid (RdI w B ns) → Calls Try.prog 34 #[rdr s b u o, .slice B ns.length d] w fun e w' => GivesN w w' e ys C) :
    Calls Try.prog 7 #[rdr s b u o, .slice B ns.length cap] w fun e w' => e = .returned (.bool true) ∧ Gr w w' := by
  have HS := hid hs; have HI := hid hi; have HR := hid hr
  clear hs hi hr
  go_enter Try.func7, Try.ntmps7
  go_wp2_with fail
  refine (szR_yes _ _ _ _ _ hsz).mono ?_
  rintro e w1 ⟨rfl, hg1⟩
  obtain ⟨x1_0, hz1, g1⟩ := alloc1 hg1
  obtain ⟨_, _, _, _⟩ := cells4 x1_0
  have _ := fz x1_0
  have _ := ltb x1_0
  have X1_0 := hid x1_0; clear x1_0
  have G1 := hid (g1)
  clear hg1 g1
  have B_1 := hid X1_0.out
  have y1 : w.heap.size < w1.heap.size := ltb B_1.out
  clear X1_0
  obtain ⟨_, _, _, _⟩ := cells4 B_1.out
  go_wp2_with fail
  refine (toReader_any _ _ _ _ _).mono ?_
  rintro e w2 ⟨rfl, hg⟩
  have B_2 := hid (hg.keep B_1.out); clear B_1
  have G2 := hid (G1.out.trans hg)
  have z2 : w1.heap.size ≤ w2.heap.size := hg.size
  clear hg
  go_wp2_with fail
  refine (toInt64S_any _ ns _ hm (HR.out.keep G2.out)).mono ?_
  rintro e w3 ⟨rfl, xx, hg⟩
  have B_3 := hid (hg.keep B_2.out); clear B_2
  have G3 := hid (G2.out.trans hg)
  have z3 : w2.heap.size ≤ w3.heap.size := hg.size
  have YS_3 := hid (xx)
  clear hg xx
  have yYS : w2.heap.size < w3.heap.size := ltb YS_3.out
  go_wp2_with fail
  refine (HS.out _ _ _ (hid (RdI.of_block YS_3.out))).mono ?_
  rintro e w4 ⟨A0, c0, rfl, xx, hg⟩
  have B_4 := hid (hg.keep B_3.out); clear B_3
  have YS_4 := hid (hg.keep YS_3.out); clear YS_3
  have G4 := hid (G3.out.trans hg)
  have z4 : w3.heap.size ≤ w4.heap.size := hg.size
  have O_4 := hid (xx)
  clear hg xx
  have L0 := hid (own_lt O_4.out)
  clear YS_4
  go_wp2_with fail
  refine (toInt64S_any _ ns _ hm (HR.out.keep G4.out)).mono ?_
  rintro e w5 ⟨rfl, xx, hg⟩
  have B_5 := hid (hg.keep B_4.out); clear B_4
  have O_5 := hid (own_gr O_4.out hg); clear O_4
  have G5 := hid (G4.out.trans hg)
  have z5 : w4.heap.size ≤ w5.heap.size := hg.size
  have YA_5 := hid (xx)
  clear hg xx
  have yYA : w4.heap.size < w5.heap.size := ltb YA_5.out
  obtain ⟨_, _, _, _⟩ := cells4 B_5.out
  go_wp2_with fail
  refine (toReader_any _ _ _ _ _).mono ?_
  rintro e w6 ⟨rfl, hg⟩
  have B_6 := hid (hg.keep B_5.out); clear B_5
  have O_6 := hid (own_gr O_5.out hg); clear O_5
  have YA_6 := hid (hg.keep YA_5.out); clear YA_5
  have G6 := hid (G5.out.trans hg)
  have z6 : w5.heap.size ≤ w6.heap.size := hg.size
  clear hg
  go_wp2_with fail
  refine (HI.out _ _ _ (hid (RdI.of_block YA_6.out))).mono ?_
  rintro e w7 ⟨Ag, cg, rfl, xx, hg⟩
  have B_7 := hid (hg.keep B_6.out); clear B_6
  have O_7 := hid (own_gr O_6.out hg); clear O_6
  have YA_7 := hid (hg.keep YA_6.out); clear YA_6
  have G7 := hid (G6.out.trans hg)
  have z7 : w6.heap.size ≤ w7.heap.size := hg.size
  have P_7 := hid (xx)
  clear hg xx
  have LG := hid (own_lt P_7.out)
  go_wp2_with fail
  refine (eqN_any _ _ _ _ ys _ (hid (RdN.of_own P_7.out)) (hid (RdN.of_own O_7.out)) hys).mono ?_
  rintro e w8 ⟨rfl, hg⟩
  have B_8 := hid (hg.keep B_7.out); clear B_7
  have O_8 := hid (own_gr O_7.out hg); clear O_7
  have YA_8 := hid (hg.keep YA_7.out); clear YA_7
  have P_8 := hid (own_gr P_7.out hg); clear P_7
  have G8 := hid (G7.out.trans hg)
  have z8 : w7.heap.size ≤ w8.heap.size := hg.size
  clear hg
  go_wp2_with fail
  refine (toInt64S_any _ ns _ hm (HR.out.keep G8.out)).mono ?_
  rintro e w9 ⟨rfl, xx, hg⟩
  have B_9 := hid (hg.keep B_8.out); clear B_8
  have O_9 := hid (own_gr O_8.out hg); clear O_8
  have YA_9 := hid (hg.keep YA_8.out); clear YA_8
  have P_9 := hid (own_gr P_8.out hg); clear P_8
  have G9 := hid (G8.out.trans hg)
  have z9 : w8.heap.size ≤ w9.heap.size := hg.size
  have YN_9 := hid (xx)
  clear hg xx
  have yYN : w8.heap.size < w9.heap.size := ltb YN_9.out
  go_wp2_with fail
  refine (eqInt64S_any _ _ _ _ ns _ (hid (RdI.of_block YA_9.out)) (hid (RdI.of_block YN_9.out)) hm).mono ?_
  rintro e w10 ⟨rfl, hg⟩
  have B_10 := hid (hg.keep B_9.out); clear B_9
  have O_10 := hid (own_gr O_9.out hg); clear O_9
  have YA_10 := hid (hg.keep YA_9.out); clear YA_9
  have P_10 := hid (own_gr P_9.out hg); clear P_9
  have YN_10 := hid (hg.keep YN_9.out); clear YN_9
  have G10 := hid (G9.out.trans hg)
  have z10 : w9.heap.size ≤ w10.heap.size := hg.size
  clear hg
  clear YN_10
  go_wp2_with fail
  refine (markInt64S_any w4.heap.size _ ns.length 1 (intA ns) _ _ YA_10 (by simp [intA]) hm (by omega) (by omega)).mono ?_
  rintro e w11 ⟨rfl, _, on⟩
  have B_11 := hid (on.1 _ _ (by omega) B_10.out); clear B_10
  have O_11 := hid (own_only O_10.out on (fun ad he => by have := L0.out ad he; omega)); clear O_10
  clear YA_10
  have P_11 := hid (own_only P_10.out on (fun ad he => by have := LG.out ad he; omega)); clear P_10
  have G11 := hid (on.2 w G10.out (by omega))
  have z11 : w.heap.size ≤ w11.heap.size := G11.out.size
  clear on
  go_wp2_with fail
  refine (eqN_any _ _ _ _ ys _ (hid (RdN.of_own P_11.out)) (hid (RdN.of_own O_11.out)) hys).mono ?_
  rintro e w12 ⟨rfl, hg⟩
  have B_12 := hid (hg.keep B_11.out); clear B_11
  have O_12 := hid (own_gr O_11.out hg); clear O_11
  have P_12 := hid (own_gr P_11.out hg); clear P_11
  have G12 := hid (G11.out.trans hg)
  have z12 : w11.heap.size ≤ w12.heap.size := hg.size
  clear hg
  go_wp2_with fail
  refine (markOwnN _ _ _ _ _ 1 _ P_12 hys (by omega) (by omega)).mono ?_
  rintro e w13 ⟨rfl, gg, hgg, on, mm⟩
  have B_13 := hid (on.1 _ _ (by omega) B_12.out); clear B_12
  have O_13 := hid (own_only O_12.out on (fun ad he => by have := L0.out ad he; omega)); clear O_12
  clear P_12
  have M_13 := hid mm
  have G13 := hid (on.2 w G12.out (by omega))
  have z13 : w.heap.size ≤ w13.heap.size := G13.out.size
  clear on mm
  go_wp2_with fail
  refine (heldN_any _ _ _ _ _ M_13 hys (by omega) (by omega)).mono ?_
  rintro e w14 ⟨rfl, hg⟩
  have B_14 := hid (hg.keep B_13.out); clear B_13
  have O_14 := hid (own_gr O_13.out hg); clear O_13
  have M_14 := hid (M_13.out.keep hg); clear M_13
  have G14 := hid (G13.out.trans hg)
  have z14 : w13.heap.size ≤ w14.heap.size := hg.size
  clear hg
  obtain ⟨_, _, _, _⟩ := cells4 B_14.out
  go_wp2_with fail
  refine (toReader_any _ _ _ _ _).mono ?_
  rintro e w15 ⟨rfl, hg⟩
  have B_15 := hid (hg.keep B_14.out); clear B_14
  have O_15 := hid (own_gr O_14.out hg); clear O_14
  have M_15 := hid (M_14.out.keep hg); clear M_14
  have G15 := hid (G14.out.trans hg)
  have z15 : w14.heap.size ≤ w15.heap.size := hg.size
  clear hg
  go_wp2_with fail
  refine (toInt64S_any _ ns _ hm (HR.out.keep G15.out)).mono ?_
  rintro e w16 ⟨rfl, xx, hg⟩
  have B_16 := hid (hg.keep B_15.out); clear B_15
  have O_16 := hid (own_gr O_15.out hg); clear O_15
  have M_16 := hid (M_15.out.keep hg); clear M_15
  have G16 := hid (G15.out.trans hg)
  have z16 : w15.heap.size ≤ w16.heap.size := hg.size
  have YB_16 := hid (xx)
  clear hg xx
  have yYB : w15.heap.size < w16.heap.size := ltb YB_16.out
  go_wp2_with fail
  refine (HI.out _ _ _ (hid (RdI.of_block YB_16.out))).mono ?_
  rintro e w17 ⟨Ah, ch2, rfl, xx, hg⟩
  have B_17 := hid (hg.keep B_16.out); clear B_16
  have O_17 := hid (own_gr O_16.out hg); clear O_16
  have M_17 := hid (M_16.out.keep hg); clear M_16
  have YB_17 := hid (hg.keep YB_16.out); clear YB_16
  have G17 := hid (G16.out.trans hg)
  have z17 : w16.heap.size ≤ w17.heap.size := hg.size
  have Q_17 := hid (xx)
  clear hg xx
  clear YB_17
  go_wp2_with fail
  refine (eqN_any _ _ _ _ ys _ (hid (RdN.of_own Q_17.out)) (hid (RdN.of_own O_17.out)) hys).mono ?_
  rintro e w18 ⟨rfl, hg⟩
  have B_18 := hid (hg.keep B_17.out); clear B_17
  have O_18 := hid (own_gr O_17.out hg); clear O_17
  have M_18 := hid (M_17.out.keep hg); clear M_17
  have Q_18 := hid (own_gr Q_17.out hg); clear Q_17
  have G18 := hid (G17.out.trans hg)
  have z18 : w17.heap.size ≤ w18.heap.size := hg.size
  clear hg
  go_wp2_with fail
  refine (heldN_any _ _ _ _ _ M_18 hys (by omega) (by omega)).mono ?_
  rintro e w19 ⟨rfl, hg⟩
  have B_19 := hid (hg.keep B_18.out); clear B_18
  have O_19 := hid (own_gr O_18.out hg); clear O_18
  have M_19 := hid (M_18.out.keep hg); clear M_18
  have Q_19 := hid (own_gr Q_18.out hg); clear Q_18
  have G19 := hid (G18.out.trans hg)
  have z19 : w18.heap.size ≤ w19.heap.size := hg.size
  clear hg
  go_wp2_with fail
  go_ret
  exact ⟨rfl, G19.out⟩

open Go.ChangeShapes Go.WideShapes Go.ChangeAt Go.Joins
theorem laidOutCorrectReadings : laidOutB Try.prog = true := by as_aux_lemma => kernel_rfl
set_option maxRecDepth 100000 in
theorem liftedCorrectReadings (os : Os) (started : os.Started) (H : Type) (enc : TypeId × Value → H) :
    ReturnsInHanded {} Try.checked os 7 .any (Rows.fnExactCorrectReadingsSpec.pre6 enc Try.prog Try.f7 Rows.fnExactCorrectReadingsRow.domain false) (Rows.fnExactCorrectReadingsSpec.post enc Try.prog Try.f7 false true false false) := by
  refine returnsInHanded_of_change (C := Try.checked) ownNone started (by kernel_rfl) Try.func7
    (ChangeSpec.witness6 (enc := enc) (C := Try.checked) false ⟨#[], #[rdr ByteArray.empty 0 0 false, .slice none 0 0], []⟩ 8 (by kernel_rfl) (by kernel_rfl) (by kernel_rfl) (by kernel_rfl)) ?_
  intro W base args ds gs before hval0 hW _ _
  have hval : ∀ (j : Nat) t v, Try.f7.params[j]? = some t → args[j]? = some v → Value.okWide Try.prog W .any base t v := hval0
  have hW' := hW
  obtain ⟨p, q, hA0, hV, rfl, _, _⟩ := hW
  have hA : DataW.TrodAll enc Try.prog W 0 (fun _ => true) true Try.f7.params.toList args.toList ds p := hA0
  rw [Try.params7] at hA hval
  obtain ⟨v0, v1, d0, d1, p_0, p_1, rfl, rfl, rfl, h0, h1⟩ := trodAll_two hA
  obtain ⟨rfl, rfl⟩ := trodVars_none hV
  clear hA0 hval0
  obtain ⟨s0, b0, u0, o0, rfl, rfl, rfl, ws0, wb0, wu0⟩ := open_reader (hval 0 62 v0 rfl rfl) h0
  simp only [List.append_nil, List.nil_append] at hW'
  have hlt : ∀ x ∈ p_1, x.block < W.heap.size := fun x hx => by simpa using hW'.lt x (by simpa using hx)
  have hlt1 : ∀ x ∈ p_1, x.block < W.heap.size := fun x hx => hlt x (by simp [hx])
  have done : ∀ (e : Ending) (W' : World), e = .returned (.bool true) ∧ Gr W W' → ∃ v, e = .returned v ∧ Rows.fnExactCorrectReadingsSpec.post enc Try.prog Try.f7 false true false false W #[rdr s0 b0 u0 o0, v1] v W' := fun e W' ⟨he, hg⟩ => by
    subst he
    exact ⟨_, rfl, _, _, _, [], p_1, [], hW', trodAll_mk1 (shut_bool Try.underlying4 _), (by have hta := trodAll_mk2 (shut_reader (o := o0) ws0 wb0 wu0) (Below.trod laidOutCorrectReadings (by kernel_rfl) (of_decide_eq_true (by kernel_rfl)) h1 hg.below hlt1); simp only [List.nil_append] at hta; exact hta), rfl, hg.below.frame _, fun h => by cases h⟩
  obtain ⟨A1, n1, cap1, rfl⟩ := okWide_slice Try.underlying42 (hval 1 42 v1 rfl rfl)
  obtain ⟨hmax1, xs1, rfl, hraw1⟩ := open_rawI h1
  by_cases hm : xs1.length ≤ 1048576
  · by_cases hn0 : s0.size ≤ 1048576
    · have hw : wfR ⟨s0, b0, u0, o0⟩ = true := by
        obtain ⟨p1, p2⟩ := wf16 wb0
        obtain ⟨p3, p4⟩ := wf16 wu0
        unfold wfR
        exact decide_eq_true ⟨p1, p2, p3, p4⟩
      obtain ⟨ys, C, hys, hS, hI⟩ := bothCorrectReadings ⟨s0, b0, u0, o0⟩ xs1 hm hw
      exact (lawCorrectReadings s0 b0 u0 o0 A1 cap1 xs1 ys C W hn0 hm hraw1 (by omega) hS hI).mono done
    · exact (lawCorrectReadings_big0 s0 b0 u0 o0 A1 xs1.length cap1 W hm (by omega) (by unfold maxLen at ws0; omega)).mono done
  · exact (lawCorrectReadings_big1 s0 b0 u0 o0 A1 xs1.length cap1 W (by omega) hmax1).mono done

set_option maxHeartbeats 2000000 in
theorem closedCorrectReadings : joinedFacts Try.pinned.checked.prog 7 Try.f7 Rows.fnExactCorrectReadingsSpec Rows.fnExactCorrectReadingsRow = true := by
  unfold joinedFacts
  refine Bool.and_eq_true_iff.2 ⟨?_, by as_aux_lemma => kernel_rfl⟩
  refine Bool.and_eq_true_iff.2 ⟨?_, by as_aux_lemma => kernel_rfl⟩
  refine Bool.and_eq_true_iff.2 ⟨?_, by as_aux_lemma => kernel_rfl⟩
  refine Bool.and_eq_true_iff.2 ⟨?_, by as_aux_lemma => kernel_rfl⟩
  refine Bool.and_eq_true_iff.2 ⟨?_, by rw [fact_make]; rfl⟩
  refine Bool.and_eq_true_iff.2 ⟨?_, by rw [fact_final]; rfl⟩
  refine Bool.and_eq_true_iff.2 ⟨?_, fact_enters⟩
  refine Bool.and_eq_true_iff.2 ⟨?_, by as_aux_lemma => kernel_rfl⟩
  refine Bool.and_eq_true_iff.2 ⟨?_, by as_aux_lemma => kernel_rfl⟩
  refine Bool.and_eq_true_iff.2 ⟨?_, by as_aux_lemma => kernel_rfl⟩
  refine Bool.and_eq_true_iff.2 ⟨?_, by as_aux_lemma => kernel_rfl⟩
  refine Bool.and_eq_true_iff.2 ⟨?_, by as_aux_lemma => kernel_rfl⟩
  refine Bool.and_eq_true_iff.2 ⟨?_, by as_aux_lemma => kernel_rfl⟩
  refine Bool.and_eq_true_iff.2 ⟨?_, by as_aux_lemma => kernel_rfl⟩
  refine Bool.and_eq_true_iff.2 ⟨?_, by as_aux_lemma => kernel_rfl⟩
  refine Bool.and_eq_true_iff.2 ⟨?_, by as_aux_lemma => kernel_rfl⟩
  refine Bool.and_eq_true_iff.2 ⟨?_, by as_aux_lemma => kernel_rfl⟩
  refine Bool.and_eq_true_iff.2 ⟨?_, by as_aux_lemma => kernel_rfl⟩
  refine Bool.and_eq_true_iff.2 ⟨?_, by as_aux_lemma => kernel_rfl⟩
  refine Bool.and_eq_true_iff.2 ⟨?_, by as_aux_lemma => kernel_rfl⟩
  refine Bool.and_eq_true_iff.2 ⟨?_, by as_aux_lemma => kernel_rfl⟩
  refine Bool.and_eq_true_iff.2 ⟨?_, by as_aux_lemma => kernel_rfl⟩
  refine Bool.and_eq_true_iff.2 ⟨?_, by as_aux_lemma => kernel_rfl⟩
  refine Bool.and_eq_true_iff.2 ⟨?_, by as_aux_lemma => kernel_rfl⟩
  refine Bool.and_eq_true_iff.2 ⟨?_, by as_aux_lemma => kernel_rfl⟩
  refine Bool.and_eq_true_iff.2 ⟨?_, by as_aux_lemma => kernel_rfl⟩
  refine Bool.and_eq_true_iff.2 ⟨?_, by as_aux_lemma => kernel_rfl⟩
  refine Bool.and_eq_true_iff.2 ⟨?_, by as_aux_lemma => kernel_rfl⟩
  refine Bool.and_eq_true_iff.2 ⟨?_, by as_aux_lemma => kernel_rfl⟩
  refine Bool.and_eq_true_iff.2 ⟨?_, by as_aux_lemma => kernel_rfl⟩
  as_aux_lemma => kernel_rfl
theorem correctReadings_holds : Rows.FnExactCorrectReadingsSaid :=
  OpenClaim.holds_of_wide 7 Try.f7 rfl rfl rfl rfl rfl rfl rfl ⟨rfl, rfl, rfl, rfl, rfl⟩ rfl rfl rfl rfl rfl (by as_aux_lemma => kernel_rfl) Try.func7 closedCorrectReadings
    (of_decide_eq_true (by as_aux_lemma => kernel_rfl)) (by unfold Func.isWrapper; rw [if_neg (by decide +kernel)]; exact ⟨rfl, rfl⟩)
    (fun os started H enc _ => liftedCorrectReadings os started H enc)
#print axioms correctReadings_holds
end Go.Proofs.Ytpadjkgbeijkpaa
