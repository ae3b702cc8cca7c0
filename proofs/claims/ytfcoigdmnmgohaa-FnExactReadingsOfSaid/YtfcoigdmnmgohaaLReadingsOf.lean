/- The law FnExactReadingsOf of the laws package returns true for all arguments, valid or not; each argument reads behind the call as before it. No condition. -/
import Derived.Test.YtfcoigdmnmgohaaRows
import Derived.Test.YtfcoigdmnmgohaaGv
import Derived.Test.YtfcoigdmnmgohaaPl
import Derived.Test.YtfcoigdmnmgohaaFm
import Derived.Test.YtfcoigdmnmgohaaRd
import Derived.Test.YtfcoigdmnmgohaaRf
import Derived.Test.YtfcoigdmnmgohaaRr
import Derived.Test.YtfcoigdmnmgohaaFacts
import Derived.ProofKit
import Derived.Carry
import Derived.Lib.SmallJoins
namespace Go.Proofs.Ytfcoigdmnmgohaa
open Go.RowKit Go.Sort

set_option maxHeartbeats 400000 in
theorem szFl_yes (A : Option Addr) (n cap : Nat) (L : Int) (w : World) (h : (n : Int) ≤ L) (l1 : L ≤ 1048576) :
    Calls Try.prog 16 #[.slice A n cap, .int .i64 L] w fun e w' => e = .returned (.int .i64 (L - (n : Int))) ∧ Gr w w' := by
  go_enter Try.func16, Try.ntmps16
  go_wp2
  go_ret
  exact ⟨rfl, Gr.refl _⟩
set_option maxHeartbeats 400000 in
theorem szFl_no (A : Option Addr) (n cap : Nat) (L : Int) (w : World) (h : L < (n : Int)) (h2 : n ≤ 9223372036854775807) (l0 : 0 ≤ L) (l1 : L ≤ 1048576) :
    Calls Try.prog 16 #[.slice A n cap, .int .i64 L] w fun e w' => e = .returned (.int .i64 (-1)) ∧ Gr w w' := by
  go_enter Try.func16, Try.ntmps16
  go_wp2
  go_ret
  exact ⟨rfl, Gr.refl _⟩
set_option maxRecDepth 20000 in
set_option maxHeartbeats 400000 in
theorem lawReadingsOf_big0 (s0 : ByteArray) (b0 u0 : Int) (o0 : Bool) (A1 : Option Addr) (n1 cap1 : Nat) (w : World) (h : 1048576 < s0.size) (h2 : s0.size ≤ 9223372036854775807) :
    Calls Try.prog 4 #[rdr s0 b0 u0 o0, .slice A1 n1 cap1] w fun e w' => e = .returned (.bool true) ∧ Gr w w' := by
  go_enter Try.func4, Try.ntmps4
  go_wp2_with fail
  refine (szR_no _ _ _ _ _ h h2).mono ?_
  rintro e w1 ⟨rfl, hg1⟩
  obtain ⟨x1_0, hz1, g1⟩ := alloc1 hg1
  obtain ⟨_, _, _, _⟩ := cells4 x1_0
  have _ := fz x1_0
  have _ := ltb x1_0
  have X1_0 := hid x1_0; clear x1_0
  have G1 := hid (g1)
  clear hg1 g1
  go_wp2
  go_ret
  exact ⟨rfl, G1.out⟩
set_option maxRecDepth 20000 in
set_option maxHeartbeats 400000 in
theorem lawReadingsOf_big1 (s0 : ByteArray) (b0 u0 : Int) (o0 : Bool) (A1 : Option Addr) (n1 cap1 : Nat) (w : World) (h0 : s0.size ≤ 1048576) (h : 1048576 < s0.size + n1) (h2 : n1 ≤ 9223372036854775807) :
    Calls Try.prog 4 #[rdr s0 b0 u0 o0, .slice A1 n1 cap1] w fun e w' => e = .returned (.bool true) ∧ Gr w w' := by
  go_enter Try.func4, Try.ntmps4
  go_wp2_with fail
  refine (szR_yes _ _ _ _ _ h0).mono ?_
  rintro e w1 ⟨rfl, hg1⟩
  obtain ⟨x1_0, hz1, g1⟩ := alloc1 hg1
  obtain ⟨_, _, _, _⟩ := cells4 x1_0
  have _ := fz x1_0
  have _ := ltb x1_0
  have X1_0 := hid x1_0; clear x1_0
  have G1 := hid (g1)
  clear hg1 g1
  go_wp2_with fail
  refine (szFl_no _ _ _ _ _ (by omega) h2 (by omega) (by omega)).mono ?_
  rintro e w2 ⟨rfl, hg2⟩
  have x2_1 := hg2.keep X1_0.out
  obtain ⟨_, _, _, _⟩ := cells4 x2_1
  have _ := fz x2_1
  have _ := ltb x2_1
  have X2_1 := hid x2_1; clear x2_1
  have G2 := hid (G1.out.trans hg2)
  clear hg2
  go_wp2
  go_ret
  exact ⟨rfl, G2.out⟩
set_option maxRecDepth 20000 in
set_option maxHeartbeats 2000000 in
theorem lawReadingsOf (s : ByteArray) (b u : Int) (o : Bool) (A : Option Addr) (cap : Nat) (xs : List (Int × Int)) (ys : List Int) (C : Int) (w : World) (hsz : s.size + xs.length ≤ 1048576) (hr : RawF w (.slice A xs.length cap) xs) (hys : ys.length ≤ 1048576)
    (hs : ∀ (g : Nat) (T : TypeId) (w : World), Hid (w.heap[g]? = some (.cells (flatA xs) T)) → Calls Try.prog 25 #[rdr s b u o, sl g xs.length] w fun e w' => GivesI w w' e ys C)
    (hi : ∀ (g : Nat) (T : TypeId) (w : World), Hid (w.heap[g]? = some (.cells (flatA xs) T)) → Calls Try.prog 27 #[rdr s b u o, sl g xs.length] w fun e w' => GivesI w w' e ys C) :
    Calls Try.prog 4 #[rdr s b u o, .slice A xs.length cap] w fun e w' => e = .returned (.bool true) ∧ Gr w w' := by
  have HS := hid hs; have HI := hid hi; have HR := hid hr
  have hn : xs.length ≤ 1048576 := by omega
  clear hs hi hr
  go_enter Try.func4, Try.ntmps4
  go_wp2_with fail
  refine (szR_yes _ _ _ _ _ (by omega)).mono ?_
  rintro e w1 ⟨rfl, hg1⟩
  obtain ⟨x1_0, hz1, g1⟩ := alloc1 hg1
  obtain ⟨_, _, _, _⟩ := cells4 x1_0
  have _ := fz x1_0
  have _ := ltb x1_0
  have X1_0 := hid x1_0; clear x1_0
  have G1 := hid (g1)
  clear hg1 g1
  go_wp2_with fail
  refine (szFl_yes _ _ _ _ _ (by omega) (by omega)).mono ?_
  rintro e w2 ⟨rfl, hg2⟩
  have x2_1 := hg2.keep X1_0.out
  obtain ⟨_, _, _, _⟩ := cells4 x2_1
  have _ := fz x2_1
  have _ := ltb x2_1
  have X2_1 := hid x2_1; clear x2_1
  have G2 := hid (G1.out.trans hg2)
  clear hg2
  go_wp2_with fail
  refine (toReader_any _ _ _ _ _).mono ?_
  rintro e w3 ⟨rfl, hg3⟩
  have x3_1 := hg3.keep X2_1.out
  obtain ⟨_, _, _, _⟩ := cells4 x3_1
  have _ := fz x3_1
  have _ := ltb x3_1
  have X3_1 := hid x3_1; clear x3_1
  have G3 := hid (G2.out.trans hg3)
  clear hg3
  have B3 := hid X3_1.out; have W3 := hid (ltb X3_1.out)
  clear X3_1
  go_wp2_with fail
  refine (toFracS_any _ xs _ hn (HR.out.keep G3.out)).mono ?_
  rintro x w4 ⟨rfl, x4, hg4⟩
  have X4 := hid x4; have B4 := hid (hg4.keep B3.out); have W4 := hid (Nat.lt_of_lt_of_le W3.out hg4.size); have G4 := hid (G3.out.trans hg4); clear x4 hg4 B3
  go_wp2_with fail
  refine (HS.out _ _ _ X4).mono ?_
  rintro x w5 ⟨A0, c0, rfl, o5, hg5⟩
  have L5 := hid (own_lt o5); have O5 := hid o5; have B5 := hid (hg5.keep B4.out); have W5 := hid (Nat.lt_of_lt_of_le W4.out hg5.size); have G5 := hid (G4.out.trans hg5); clear o5 hg5 B4 X4
  obtain ⟨_, _, _, _⟩ := cells4 B5.out
  go_wp2_with fail
  refine (toFracS_any _ xs _ hn (HR.out.keep G5.out)).mono ?_
  rintro x w6 ⟨rfl, x6, hg6⟩
  have X6 := hid x6; have Z6 := hid (ltb x6); have O6 := hid (own_gr O5.out hg6); have B6 := hid (hg6.keep B5.out); have G6 := hid (G5.out.trans hg6); clear x6 hg6 O5 B5
  obtain ⟨_, _, _, _⟩ := cells4 B6.out
  go_wp2_with fail
  refine (toReader_any _ _ _ _ _).mono ?_
  rintro x w7 ⟨rfl, hg7⟩
  have X7 := hid (hg7.keep X6.out); have Z7 := hid (Nat.lt_of_lt_of_le Z6.out hg7.size); have O7 := hid (own_gr O6.out hg7); have B7 := hid (hg7.keep B6.out); have G7 := hid (G6.out.trans hg7); clear hg7 O6 B6 X6
  go_wp2_with fail
  refine (HI.out _ _ _ X7).mono ?_
  rintro x w8 ⟨Ag, cg, rfl, o8, hg8⟩
  have LG := hid (own_lt o8); have OG8 := hid o8; have O8 := hid (own_gr O7.out hg8); have X8 := hid (hg8.keep X7.out); have B8 := hid (hg8.keep B7.out); have G8 := hid (G7.out.trans hg8); clear o8 hg8 O7 B7 X7
  go_wp2_with fail
  refine (eqInt64S_any _ _ _ _ ys _ (hid (RdI.of_own OG8.out)) (hid (RdI.of_own O8.out)) hys).mono ?_
  rintro x w9 ⟨rfl, hg9⟩
  have OG9 := hid (own_gr OG8.out hg9); have O9 := hid (own_gr O8.out hg9); have X9 := hid (hg9.keep X8.out); have B9 := hid (hg9.keep B8.out); have G9 := hid (G8.out.trans hg9); clear hg9 OG8 O8 B8 X8
  go_wp2_with fail
  refine (toFracS_any _ xs _ hn (HR.out.keep G9.out)).mono ?_
  rintro x w10 ⟨rfl, x10, hg10⟩
  have Y10 := hid x10; have OG10 := hid (own_gr OG9.out hg10); have O10 := hid (own_gr O9.out hg10); have X10 := hid (hg10.keep X9.out); have B10 := hid (hg10.keep B9.out); have G10 := hid (G9.out.trans hg10); clear x10 hg10 OG9 O9 B9 X9
  go_wp2_with fail
  refine (eqFracS_any _ _ xs _ _ _ X10 Y10 hn).mono ?_
  rintro x w11 ⟨rfl, hg11⟩
  have OG11 := hid (own_gr OG10.out hg11); have O11 := hid (own_gr O10.out hg11); have X11 := hid (hg11.keep X10.out); have B11 := hid (hg11.keep B10.out); have G11 := hid (G10.out.trans hg11); clear hg11 OG10 O10 B10 X10 Y10
  go_wp2_with fail
  refine (markF_any w5.heap.size _ xs.length 1 (flatA xs) _ _ X11 (by unfold flatA; simp [flatL_len]) hn (by omega) (by omega)).mono ?_
  rintro x w12 ⟨rfl, _, on12⟩
  have OG12 := hid (own_only OG11.out on12 (fun ad he => Nat.ne_of_gt (Nat.lt_of_lt_of_le Z7.out (LG.out ad he).1)))
  have R12 := hid ((RdI.of_own O11.out).only on12 (fun ad he => Nat.ne_of_lt (L5.out ad he).2))
  have B12 := hid (on12.1 _ _ (Nat.ne_of_lt W5.out) B11.out)
  have G12 := hid (on12.2 w G11.out (Nat.le_of_lt W5.out)); clear on12 OG11 O11 B11 X11
  go_wp2_with fail
  refine (eqInt64S_any _ _ _ _ ys _ (hid (RdI.of_own OG12.out)) R12 hys).mono ?_
  rintro x w13 ⟨rfl, g13⟩
  have OG13 := hid (own_gr OG12.out g13); have R13 := hid (R12.out.keep g13); have B13 := hid (g13.keep B12.out); have G13 := hid (G12.out.trans g13); clear g13 OG12 R12 B12
  go_wp2_with fail
  refine (markOwn _ _ _ _ _ 1 _ OG13 hys (by omega) (by omega)).mono ?_
  rintro x w14 ⟨rfl, gg, hgg, on14, m14⟩
  have hgw : w5.heap.size < gg := Nat.lt_of_lt_of_le Z7.out hgg
  have M14 := hid m14
  have R14 := hid (R13.out.only on14 (fun ad he => Nat.ne_of_lt (Nat.lt_trans (L5.out ad he).2 hgw)))
  have B14 := hid (on14.1 _ _ (Nat.ne_of_lt (Nat.lt_trans W5.out hgw)) B13.out)
  have G14 := hid (on14.2 w G13.out (Nat.le_of_lt (Nat.lt_trans W5.out (Nat.lt_of_lt_of_le Z7.out hgg)))); clear on14 m14 OG13 R13 B13
  go_wp2_with fail
  refine (heldInt64S_any _ _ _ _ _ M14 hys (by omega) (by omega)).mono ?_
  rintro x w15 ⟨rfl, g15⟩
  have M15 := hid (M14.out.keep g15); have R15 := hid (R14.out.keep g15); have B15 := hid (g15.keep B14.out); have G15 := hid (G14.out.trans g15); clear g15 M14 R14 B14
  obtain ⟨_, _, _, _⟩ := cells4 B15.out
  go_wp2_with fail
  refine (toReader_any _ _ _ _ _).mono ?_
  rintro x w16 ⟨rfl, g16⟩
  have M16 := hid (M15.out.keep g16); have R16 := hid (R15.out.keep g16); have G16 := hid (G15.out.trans g16); clear g16 M15 R15 B15
  go_wp2_with fail
  refine (toFracS_any _ xs _ hn (HR.out.keep G16.out)).mono ?_
  rintro x w17 ⟨rfl, x17, g17⟩
  have X17 := hid x17; have M17 := hid (M16.out.keep g17); have R17 := hid (R16.out.keep g17); have G17 := hid (G16.out.trans g17); clear x17 g17 M16 R16
  go_wp2_with fail
  refine (HI.out _ _ _ X17).mono ?_
  rintro x w18 ⟨Ah, ch, rfl, o18, g18⟩
  have RH := hid (RdI.of_own o18); have M18 := hid (M17.out.keep g18); have R18 := hid (R17.out.keep g18); have G18 := hid (G17.out.trans g18); clear o18 g18 M17 R17 X17
  go_wp2_with fail
  refine (eqInt64S_any _ _ _ _ ys _ RH R18 hys).mono ?_
  rintro x w19 ⟨rfl, g19⟩
  have M19 := hid (M18.out.keep g19); have G19 := hid (G18.out.trans g19); clear g19 M18 R18 RH
  go_wp2_with fail
  refine (heldInt64S_any _ _ _ _ _ M19 hys (by omega) (by omega)).mono ?_
  rintro x w20 ⟨rfl, g20⟩
  have G20 := hid (G19.out.trans g20); clear g20 M19
  go_wp2_with fail
  go_ret
  exact ⟨rfl, G20.out⟩

open Go.ChangeShapes Go.WideShapes Go.ChangeAt Go.Joins
theorem laidOutReadingsOf : laidOutB Try.prog = true := by as_aux_lemma => kernel_rfl
set_option maxRecDepth 100000 in
theorem liftedReadingsOf (os : Os) (started : os.Started) (H : Type) (enc : TypeId × Value → H) :
    ReturnsInHanded {} Try.checked os 4 .any (Rows.fnExactReadingsOfSpec.pre6 enc Try.prog Try.f4 Rows.fnExactReadingsOfRow.domain false) (Rows.fnExactReadingsOfSpec.post enc Try.prog Try.f4 false true false false) := by
  refine returnsInHanded_of_change (C := Try.checked) ownNone started (by kernel_rfl) Try.func4
    (ChangeSpec.witness6 (enc := enc) (C := Try.checked) false ⟨#[], #[rdr ByteArray.empty 0 0 false, .slice none 0 0], []⟩ 8 (by kernel_rfl) (by kernel_rfl) (by kernel_rfl) (by kernel_rfl)) ?_
  intro W base args ds gs before hval0 hW _ _
  have hval : ∀ (j : Nat) t v, Try.f4.params[j]? = some t → args[j]? = some v → Value.okWide Try.prog W .any base t v := hval0
  have hW' := hW
  obtain ⟨p, q, hA0, hV, rfl, _, _⟩ := hW
  have hA : DataW.TrodAll enc Try.prog W 0 (fun _ => true) true Try.f4.params.toList args.toList ds p := hA0
  rw [Try.params4] at hA hval
  obtain ⟨v0, v1, d0, d1, p_0, p_1, rfl, rfl, rfl, h0, h1⟩ := trodAll_two hA
  obtain ⟨rfl, rfl⟩ := trodVars_none hV
  clear hA0 hval0
  obtain ⟨s0, b0, u0, o0, rfl, rfl, rfl, ws0, wb0, wu0⟩ := open_reader (hval 0 45 v0 rfl rfl) h0
  simp only [List.append_nil, List.nil_append] at hW'
  have hlt : ∀ x ∈ p_1, x.block < W.heap.size := fun x hx => by simpa using hW'.lt x (by simpa using hx)
  have hlt1 : ∀ x ∈ p_1, x.block < W.heap.size := fun x hx => hlt x (by simp [hx])
  have done : ∀ (e : Ending) (W' : World), e = .returned (.bool true) ∧ Gr W W' → ∃ v, e = .returned v ∧ Rows.fnExactReadingsOfSpec.post enc Try.prog Try.f4 false true false false W #[rdr s0 b0 u0 o0, v1] v W' := fun e W' ⟨he, hg⟩ => by
    subst he
    exact ⟨_, rfl, _, _, _, [], p_1, [], hW', trodAll_mk1 (shut_bool Try.underlying4 _), (by have hta := trodAll_mk2 (shut_reader (o := o0) ws0 wb0 wu0) (Below.trod laidOutReadingsOf (by kernel_rfl) (of_decide_eq_true (by kernel_rfl)) h1 hg.below hlt1); simp only [List.nil_append] at hta; exact hta), rfl, hg.below.frame _, fun h => by cases h⟩
  obtain ⟨A1, n1, cap1, rfl⟩ := okWide_slice Try.underlying27 (hval 1 27 v1 rfl rfl)
  obtain ⟨hmax1, xs1, rfl, hraw1⟩ := open_fracs h1
  by_cases hn0 : s0.size ≤ 1048576
  · by_cases hn1 : s0.size + xs1.length ≤ 1048576
    · obtain ⟨ys, C, hys, hs, hi⟩ := bothReadingsOf s0 b0 u0 o0 xs1 hn0 (by omega) (wf16 wb0) (wf16 wu0)
      exact (lawReadingsOf s0 b0 u0 o0 A1 cap1 xs1 ys C W hn1 hraw1 hys hs hi).mono done
    · exact (lawReadingsOf_big1 s0 b0 u0 o0 A1 xs1.length cap1 W hn0 (by omega) hmax1).mono done
  · exact (lawReadingsOf_big0 s0 b0 u0 o0 A1 xs1.length cap1 W (by omega) (by unfold maxLen at ws0; omega)).mono done

set_option maxHeartbeats 2000000 in
theorem closedReadingsOf : joinedFacts Try.pinned.checked.prog 4 Try.f4 Rows.fnExactReadingsOfSpec Rows.fnExactReadingsOfRow = true := by
  unfold joinedFacts
  refine Bool.and_eq_true_iff.2 ⟨?_, by as_aux_lemma => kernel_rfl⟩
  refine Bool.and_eq_true_iff.2 ⟨?_, by as_aux_lemma => kernel_rfl⟩
  refine Bool.and_eq_true_iff.2 ⟨?_, by as_aux_lemma => kernel_rfl⟩
  refine Bool.and_eq_true_iff.2 ⟨?_, by as_aux_lemma => kernel_rfl⟩
  refine Bool.and_eq_true_iff.2 ⟨?_, by rw [fact_make]; rfl⟩
  refine Bool.and_eq_true_iff.2 ⟨?_, by rw [fact_final]; rfl⟩
  refine Bool.and_eq_true_iff.2 ⟨?_, fact_enters⟩
  refine Bool.and_eq_true_iff.2 ⟨?_, by as_aux_lemma => kernel_rfl⟩
  refine Bool.and_eq_true_iff.2 ⟨?_, by as_aux_lemma => kernel_rfl⟩
  refine Bool.and_eq_true_iff.2 ⟨?_, by as_aux_lemma => kernel_rfl⟩
  refine Bool.and_eq_true_iff.2 ⟨?_, by as_aux_lemma => kernel_rfl⟩
  refine Bool.and_eq_true_iff.2 ⟨?_, by as_aux_lemma => kernel_rfl⟩
  refine Bool.and_eq_true_iff.2 ⟨?_, by as_aux_lemma => kernel_rfl⟩
  refine Bool.and_eq_true_iff.2 ⟨?_, by as_aux_lemma => kernel_rfl⟩
  refine Bool.and_eq_true_iff.2 ⟨?_, by as_aux_lemma => kernel_rfl⟩
  refine Bool.and_eq_true_iff.2 ⟨?_, by as_aux_lemma => kernel_rfl⟩
  refine Bool.and_eq_true_iff.2 ⟨?_, by as_aux_lemma => kernel_rfl⟩
  refine Bool.and_eq_true_iff.2 ⟨?_, by as_aux_lemma => kernel_rfl⟩
  refine Bool.and_eq_true_iff.2 ⟨?_, by as_aux_lemma => kernel_rfl⟩
  refine Bool.and_eq_true_iff.2 ⟨?_, by as_aux_lemma => kernel_rfl⟩
  refine Bool.and_eq_true_iff.2 ⟨?_, by as_aux_lemma => kernel_rfl⟩
  refine Bool.and_eq_true_iff.2 ⟨?_, by as_aux_lemma => kernel_rfl⟩
  refine Bool.and_eq_true_iff.2 ⟨?_, by as_aux_lemma => kernel_rfl⟩
  refine Bool.and_eq_true_iff.2 ⟨?_, by as_aux_lemma => kernel_rfl⟩
  refine Bool.and_eq_true_iff.2 ⟨?_, by as_aux_lemma => kernel_rfl⟩
  refine Bool.and_eq_true_iff.2 ⟨?_, by as_aux_lemma => kernel_rfl⟩
  refine Bool.and_eq_true_iff.2 ⟨?_, by as_aux_lemma => kernel_rfl⟩
  refine Bool.and_eq_true_iff.2 ⟨?_, by as_aux_lemma => kernel_rfl⟩
  refine Bool.and_eq_true_iff.2 ⟨?_, by as_aux_lemma => kernel_rfl⟩
  refine Bool.and_eq_true_iff.2 ⟨?_, by as_aux_lemma => kernel_rfl⟩
  as_aux_lemma => kernel_rfl
theorem readingsOf_holds : Rows.FnExactReadingsOfSaid :=
  OpenClaim.holds_of_wide_leaving 4 Try.f4 rfl rfl rfl rfl rfl rfl rfl ⟨rfl, rfl, rfl, rfl, rfl⟩ rfl rfl rfl rfl rfl (by as_aux_lemma => kernel_rfl) Try.func4 closedReadingsOf
    (of_decide_eq_true (by as_aux_lemma => kernel_rfl)) (by unfold Func.isWrapper; rw [if_neg (by decide +kernel)]; exact ⟨rfl, rfl⟩)
    (fun os started H enc _ => leaving_of_handed (liftedReadingsOf os started H enc))
#print axioms readingsOf_holds
end Go.Proofs.Ytfcoigdmnmgohaa
