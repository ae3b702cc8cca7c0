/- The law FnExactShareEvenly of the laws package returns true for every slice of fractions and every fraction, valid or not; they read behind the call as before it. No condition. -/
import Derived.Test.YteeadoglbkociaaRows
import Derived.Test.YteeadoglbkociaaSg
import Derived.Test.YteeadoglbkociaaRs
import Derived.Test.YteeadoglbkociaaFacts
import Derived.ProofKit
import Derived.Carry
import Derived.Lib.SmallJoins
namespace Go.Proofs.Yteeadoglbkociaa
open Go.RowKit Go.Sort

set_option maxRecDepth 20000 in
set_option maxHeartbeats 4000000 in
theorem lawShareEvenly (p q : Int) (A : Option Addr) (cap : Nat) (xs ys : List (Int × Int)) (C : Int) (w : World) (hr : RawF w (.slice A xs.length cap) xs) (hn : xs.length ≤ 1048576) (hys : ys.length ≤ 1048576)
    (hs : ∀ (g : Nat) (w : World), Hid (w.heap[g]? = some (.cells (flatA xs) 25)) → Calls Try.prog 39 #[sl g xs.length, fr p q] w fun e w' => GivesF w w' e ys C)
    (hi : ∀ (g : Nat) (w : World), Hid (w.heap[g]? = some (.cells (flatA xs) 25)) → Calls Try.prog 41 #[sl g xs.length, fr p q] w fun e w' => GivesF w w' e ys C) :
    Calls Try.prog 7 #[.slice A xs.length cap, fr p q] w fun x w' => x = .returned (.bool true) ∧ Gr w w' := by
  have HS := hid hs; have HI := hid hi; have HR := hid hr
  have HSZ := hid fun (w : World) => (szF A xs.length cap 1048576 w (by omega) (by omega) (by omega)).mono (R' := fun e w' => e = .returned (.int .i64 (1048576 - (xs.length : Int))) ∧ Gr w w') fun e w' h => ⟨by rw [h.1, if_pos (by omega)], h.2⟩
  clear hs hi hr
  go_enter Try.func7, Try.ntmps7
  go_wp2_with fail
  refine (HSZ.out _).mono ?_
  rintro e w1 ⟨rfl, hg1⟩
  obtain ⟨x1_0, hz1, g1⟩ := alloc1 hg1
  obtain ⟨_, _⟩ := cells2 x1_0
  have _ := fz x1_0
  have _ := ltb x1_0
  have X1_0 := hid x1_0; clear x1_0
  have G1 := hid (g1)
  clear hg1 g1
  have Z1 := hid (ltb X1_0.out)
  go_wp2_with fail
  refine wp_regL2 (fun g : Nat => .slice (some ⟨g, 0, none⟩) xs.length xs.length) (fun g w => w.heap[g]? = some (.cells (flatA xs) 25)) (fun ε : Option Addr × Nat => .tuple #[.slice ε.1 ys.length ε.2, .int .i64 C]) (fun ε w => w.ownsRow w1.heap.size 25 2 (.slice ε.1 ys.length ε.2) ys.length (flatL ys)) 9 1 23 4 26 [0, 0, 0, 0, 1, 2, 2, 2, 2] [1, 4, 5, 6, 7, 8] [0, 1, 2, 3, 4, 5, 6, 7, 8] [0, 1, 2, 3, 4] (by kernel_rfl) (by kernel_rfl) (by kernel_rfl) rfl rfl (by decide) (fun g g' h => by simpa using h) (fun g w w' h hg => hg.keep h) (fun ε ε' h => by obtain ⟨A1, c1⟩ := ε; obtain ⟨A2, c2⟩ := ε'; simpa using h) (fun ε w w' h hg => own_gr h hg) ?_
  apply Exists.intro; apply Exists.intro; apply Exists.intro
  refine ⟨fun wb hb => ?_, fun o ho wb hb => ?_, fun g wb hb hg => ?_, fun o ho g wb hb hg => ?_, fun g ε wb hb hg ho => ?_, fun g2 ε2 w2 hg2 _ o2 => ?_⟩
  · obtain ⟨_, _⟩ := hb.at2 X1_0.out
    simp only [headOps, List.contains, List.elem, Nat.reduceAdd, Nat.reduceBEq, reduceIte, Bool.false_eq_true, dumOp]
    repeat (first | go_big_quiet_step (first | (go_at_call 40; exact Calls.of_gr (toFrac_any _ _ _))) | quiet_step (fail))
    exact wpQuiet_nil rfl
  · cases ho
    exact ⟨_, _, by kernel_rfl, (toFracS_any _ xs wb hn (HR.out.keep (G1.out.trans hb))).mono fun e w' h => ⟨_, h.1, h.2.1, h.2.2⟩⟩
  · simp only [headOps, List.contains, List.elem, Nat.reduceAdd, Nat.reduceBEq, reduceIte, dumOp]
    repeat (first | go_big_quiet_step (first | fail) | quiet_step (fail))
    exact wpQuiet_nil rfl
  · cases ho
    exact ⟨_, _, by kernel_rfl, (HS.out _ _ (hid hg)).mono fun e w' ⟨A', c', he, ho, hg'⟩ => ⟨(A', c'), he, own_base ho hb.size, hg'⟩⟩
  · simp only [headOps, List.contains, List.elem, Nat.reduceAdd, Nat.reduceBEq, reduceIte, Bool.false_eq_true, dumOp]
    repeat (first | go_big_quiet_step (first | (fail)) | quiet_step (fail))
    exact wpQuiet_nil rfl
  simp only [List.drop_succ_cons, List.drop_zero]
  have L2 := hid (own_lt o2); have O2 := hid o2; have G2 := hid (G1.out.trans hg2); have B2 := hid (hg2.keep X1_0.out); have Z2 := hid (Nat.lt_of_lt_of_le Z1.out hg2.size)
  clear hg2 o2
  go_wp2_with fail
  refine (toFracS_any _ xs _ hn (HR.out.keep G2.out)).mono ?_
  rintro e w3 ⟨rfl, x3, hg3⟩
  have X3 := hid x3; have Z3 := hid (ltb x3); have O3 := hid (own_gr O2.out hg3); have G3 := hid (G2.out.trans hg3); have B3 := hid (hg3.keep B2.out)
  clear x3 hg3 O2 B2
  obtain ⟨_, _⟩ := cells2 B3.out
  go_wp2_with fail
  refine (toFrac_any _ _ _).mono ?_
  rintro e w4 ⟨rfl, hg4⟩
  have X4 := hid (hg4.keep X3.out); have Z4 := hid (Nat.lt_of_lt_of_le Z3.out hg4.size); have O4 := hid (own_gr O3.out hg4); have G4 := hid (G3.out.trans hg4); have B4 := hid (hg4.keep B3.out)
  clear hg4 O3 B3 X3
  go_wp2_with fail
  refine (HI.out _ _ X4).mono ?_
  rintro e w5 ⟨Ag, cg, rfl, o5, hg5⟩
  have LG := hid (own_lt o5); have OG5 := hid o5; have O5 := hid (own_gr O4.out hg5); have X5 := hid (hg5.keep X4.out); have G5 := hid (G4.out.trans hg5); have B5 := hid (hg5.keep B4.out)
  clear o5 hg5 O4 X4 B4
  go_wp2_with fail
  refine (eqF_any _ _ _ _ ys _ (hid (RdF.of_ownF OG5.out)) (hid (RdF.of_ownF O5.out)) hys).mono ?_
  rintro e w6 ⟨rfl, hg6⟩
  have OG6 := hid (own_gr OG5.out hg6); have O6 := hid (own_gr O5.out hg6); have X6 := hid (hg6.keep X5.out); have G6 := hid (G5.out.trans hg6); have B6 := hid (hg6.keep B5.out)
  clear hg6 OG5 O5 X5 B5
  go_wp2_with fail
  refine (toFracS_any _ xs _ hn (HR.out.keep G6.out)).mono ?_
  rintro e w7 ⟨rfl, x7, hg7⟩
  have Y7 := hid x7; have OG7 := hid (own_gr OG6.out hg7); have O7 := hid (own_gr O6.out hg7); have X7 := hid (hg7.keep X6.out); have G7 := hid (G6.out.trans hg7); have B7 := hid (hg7.keep B6.out)
  clear x7 hg7 OG6 O6 X6 B6
  go_wp2_with fail
  refine (eqF_any _ _ _ _ xs _ (hid (RdF.of_block X7.out)) (hid (RdF.of_block Y7.out)) hn).mono ?_
  rintro e w8 ⟨rfl, hg8⟩
  have OG8 := hid (own_gr OG7.out hg8); have O8 := hid (own_gr O7.out hg8); have X8 := hid (hg8.keep X7.out); have G8 := hid (G7.out.trans hg8); have B8 := hid (hg8.keep B7.out)
  clear hg8 OG7 O7 X7 B7 Y7
  go_wp2_with fail
  refine (markF_any w2.heap.size xs.length xs.length 1 (flatA xs) _ _ X8 (by unfold flatA; simp [flatL_len]) hn (by omega) (by omega)).mono ?_
  rintro e w9 ⟨rfl, _, on9⟩
  have OG9 := hid (own_only OG8.out on9 (fun ad he => Nat.ne_of_gt (Nat.lt_of_lt_of_le Z4.out (LG.out ad he).1)))
  have R9 := hid ((RdF.of_ownF O8.out).only on9 (fun ad he => Nat.ne_of_lt (L2.out ad he).2))
  have B9 := hid (on9.1 _ _ (Nat.ne_of_lt Z2.out) B8.out)
  have G9 := hid (on9.2 w G8.out G2.out.size)
  clear on9 OG8 O8 X8 B8
  go_wp2_with fail
  refine (eqF_any _ _ _ _ ys _ (hid (RdF.of_ownF OG9.out)) R9 hys).mono ?_
  rintro e w10 ⟨rfl, g10⟩
  have OG10 := hid (own_gr OG9.out g10); have R10 := hid (R9.out.keep g10); have B10 := hid (g10.keep B9.out); have G10 := hid (G9.out.trans g10)
  clear g10 OG9 R9 B9
  go_wp2_with fail
  refine (markOwnF _ _ _ _ _ 1 _ OG10 hys (by omega) (by omega)).mono ?_
  rintro e w11 ⟨rfl, gg, hgg, on11, m11⟩
  have hgw : w2.heap.size < gg := Nat.lt_of_lt_of_le Z4.out hgg
  have M11 := hid m11
  have R11 := hid (R10.out.only on11 (fun ad he => Nat.ne_of_lt (Nat.lt_trans (L2.out ad he).2 hgw)))
  have B11 := hid (on11.1 _ _ (Nat.ne_of_lt (Nat.lt_trans Z2.out hgw)) B10.out)
  have G11 := hid (on11.2 w G10.out (Nat.le_trans G2.out.size (Nat.le_of_lt hgw)))
  clear on11 m11 OG10 R10 B10
  go_wp2_with fail
  refine (heldF_any _ _ _ _ _ M11 hys (by omega) (by omega)).mono ?_
  rintro e w12 ⟨rfl, g12⟩
  have M12 := hid (M11.out.keep g12); have R12 := hid (R11.out.keep g12); have B12 := hid (g12.keep B11.out); have G12 := hid (G11.out.trans g12)
  clear g12 M11 R11 B11
  go_wp2_with fail
  refine wp_regL2 (fun g : Nat => .slice (some ⟨g, 0, none⟩) xs.length xs.length) (fun g w => w.heap[g]? = some (.cells (flatA xs) 25)) (fun ε : Option Addr × Nat => .tuple #[.slice ε.1 ys.length ε.2, .int .i64 C]) (fun ε w => w.ownsRow w12.heap.size 25 2 (.slice ε.1 ys.length ε.2) ys.length (flatL ys)) 9 1 81 4 84 [0, 0, 0, 0, 1, 2, 2, 2, 2] [1, 4, 5, 6, 7, 8] [0, 1, 2, 3, 4, 5, 6, 7, 8] [0, 1, 2, 3, 4] (by kernel_rfl) (by kernel_rfl) (by kernel_rfl) rfl rfl (by decide) (fun g g' h => by simpa using h) (fun g w w' h hg => hg.keep h) (fun ε ε' h => by obtain ⟨A1, c1⟩ := ε; obtain ⟨A2, c2⟩ := ε'; simpa using h) (fun ε w w' h hg => own_gr h hg) ?_
  apply Exists.intro; apply Exists.intro; apply Exists.intro
  refine ⟨fun wb hb => ?_, fun o ho wb hb => ?_, fun g wb hb hg => ?_, fun o ho g wb hb hg => ?_, fun g ε wb hb hg ho => ?_, fun g13 ε13 w13 hg13 _ o13 => ?_⟩
  · obtain ⟨_, _⟩ := hb.at2 B12.out
    simp only [headOps, List.contains, List.elem, Nat.reduceAdd, Nat.reduceBEq, reduceIte, Bool.false_eq_true, dumOp]
    repeat (first | go_big_quiet_step (first | (go_at_call 40; exact Calls.of_gr (toFrac_any _ _ _))) | quiet_step (fail))
    exact wpQuiet_nil rfl
  · cases ho
    exact ⟨_, _, by kernel_rfl, (toFracS_any _ xs wb hn (HR.out.keep (G12.out.trans hb))).mono fun e w' h => ⟨_, h.1, h.2.1, h.2.2⟩⟩
  · simp only [headOps, List.contains, List.elem, Nat.reduceAdd, Nat.reduceBEq, reduceIte, dumOp]
    repeat (first | go_big_quiet_step (first | fail) | quiet_step (fail))
    exact wpQuiet_nil rfl
  · cases ho
    exact ⟨_, _, by kernel_rfl, (HI.out _ _ (hid hg)).mono fun e w' ⟨A', c', he, ho, hg'⟩ => ⟨(A', c'), he, own_base ho hb.size, hg'⟩⟩
  · simp only [headOps, List.contains, List.elem, Nat.reduceAdd, Nat.reduceBEq, reduceIte, Bool.false_eq_true, dumOp]
    repeat (first | go_big_quiet_step (first | (fail)) | quiet_step (fail))
    exact wpQuiet_nil rfl
  simp only [List.drop_succ_cons, List.drop_zero]
  have RH := hid (RdF.of_ownF o13); have M13 := hid (M12.out.keep hg13); have R13 := hid (R12.out.keep hg13); have G13 := hid (G12.out.trans hg13)
  clear o13 hg13 M12 R12 B12
  go_wp2_with fail
  refine (eqF_any _ _ _ _ ys _ RH R13 hys).mono ?_
  rintro e w14 ⟨rfl, g14⟩
  have M14 := hid (M13.out.keep g14); have G14 := hid (G13.out.trans g14); clear g14 M13 R13 RH
  go_wp2_with fail
  refine (heldF_any _ _ _ _ _ M14 hys (by omega) (by omega)).mono ?_
  rintro e w15 ⟨rfl, g15⟩
  have G15 := hid (G14.out.trans g15); clear g15 M14
  go_wp2_with fail
  go_ret
  exact ⟨rfl, G15.out⟩
set_option maxRecDepth 20000 in
set_option maxHeartbeats 400000 in
theorem lawShareEvenly_big (p q : Int) (A : Option Addr) (n cap : Nat) (w : World) (h : 1048576 < n) (h2 : n ≤ 9223372036854775807) :
    Calls Try.prog 7 #[.slice A n cap, fr p q] w fun e w' => e = .returned (.bool true) ∧ Gr w w' := by
  have HSZ := hid fun (w : World) => (szF A n cap 1048576 w h2 (by omega) (by omega)).mono (R' := fun e w' => e = .returned (.int .i64 (-1)) ∧ Gr w w') fun e w' h => ⟨by rw [h.1, if_neg (by omega)], h.2⟩
  go_enter Try.func7, Try.ntmps7
  go_wp2_with fail
  refine (HSZ.out _).mono ?_
  rintro e w1 ⟨rfl, hg1⟩
  obtain ⟨x1_0, hz1, g1⟩ := alloc1 hg1
  obtain ⟨_, _⟩ := cells2 x1_0
  have _ := fz x1_0
  have _ := ltb x1_0
  have X1_0 := hid x1_0; clear x1_0
  have G1 := hid (g1)
  clear hg1 g1
  go_wp2
  go_ret
  exact ⟨rfl, G1.out⟩
open Go.ChangeShapes Go.WideShapes Go.ChangeAt Go.Joins
theorem laidOutShareEvenly : laidOutB Try.prog = true := by as_aux_lemma => kernel_rfl
set_option maxRecDepth 100000 in
theorem liftedShareEvenly (os : Os) (started : os.Started) (H : Type) (enc : TypeId × Value → H) :
    ReturnsInHanded {} Try.checked os 7 .any (Rows.fnExactShareEvenlySpec.pre6 enc Try.prog Try.f7 Rows.fnExactShareEvenlyRow.domain false) (Rows.fnExactShareEvenlySpec.post enc Try.prog Try.f7 false true false false) := by
  refine returnsInHanded_of_change (C := Try.checked) ownNone started (by kernel_rfl) Try.func7
    (ChangeSpec.witness6 (enc := enc) (C := Try.checked) false ⟨#[], #[.slice none 0 0, .agg #[.int .i64 0, .int .i64 0]], []⟩ 8 (by kernel_rfl) (by kernel_rfl) (by kernel_rfl) (by kernel_rfl)) ?_
  intro W base args ds gs before hval0 hW _ _
  have hval : ∀ (j : Nat) t v, Try.f7.params[j]? = some t → args[j]? = some v → Value.okWide Try.prog W .any base t v := hval0
  have hW' := hW
  obtain ⟨p, q, hA0, hV, rfl, _, _⟩ := hW
  have hA : DataW.TrodAll enc Try.prog W 0 (fun _ => true) true Try.f7.params.toList args.toList ds p := hA0
  rw [Try.params7] at hA hval
  obtain ⟨u0, u1, d0, d1, p0, p1, rfl, rfl, rfl, h0, h1⟩ := trodAll_two hA
  obtain ⟨rfl, rfl⟩ := trodVars_none hV
  obtain ⟨p, q, rfl, rfl, rfl, wp, wq⟩ := open_frac (hval 1 35 u1 rfl rfl) h1
  clear hA0 hval0
  simp only [List.append_nil] at hW'
  have hlt : ∀ x ∈ p0, x.block < W.heap.size := fun x hx => by simpa using hW'.lt x hx
  have done : ∀ (e : Ending) (W' : World), e = .returned (.bool true) ∧ Gr W W' → ∃ v, e = .returned v ∧ Rows.fnExactShareEvenlySpec.post enc Try.prog Try.f7 false true false false W #[u0, fr p q] v W' := fun e W' ⟨he, hg⟩ => by
    subst he
    exact ⟨_, rfl, _, _, _, [], p0, [], hW', trodAll_mk1 (shut_bool Try.underlying4 _), (by have hta := trodAll_mk2 (Below.trod laidOutShareEvenly (by kernel_rfl) (of_decide_eq_true (by kernel_rfl)) h0 hg.below hlt) (shut_frac wp wq); simp only [List.append_nil] at hta; exact hta), rfl, hg.below.frame _, fun h => by cases h⟩
  obtain ⟨A, n, cap, rfl⟩ := okWide_slice Try.underlying41 (hval 0 41 u0 rfl rfl)
  obtain ⟨hmax, xs, rfl, hraw⟩ := open_fracs h0
  by_cases hn : xs.length ≤ 1048576
  · obtain ⟨ys, C, hys, hs, hi⟩ := bothShareEvenly xs p q hn
    exact (lawShareEvenly p q A cap xs ys C W hraw hn hys hs hi).mono done
  · exact (lawShareEvenly_big p q A xs.length cap W (by omega) hmax).mono done

set_option maxHeartbeats 2000000 in
theorem closedShareEvenly : joinedFacts Try.pinned.checked.prog 7 Try.f7 Rows.fnExactShareEvenlySpec Rows.fnExactShareEvenlyRow = true := by
  unfold joinedFacts
  refine Bool.and_eq_true_iff.2 ⟨?_, by as_aux_lemma => kernel_rfl⟩
  refine Bool.and_eq_true_iff.2 ⟨?_, by as_aux_lemma => kernel_rfl⟩
  refine Bool.and_eq_true_iff.2 ⟨?_, by as_aux_lemma => kernel_rfl⟩
  refine Bool.and_eq_true_iff.2 ⟨?_, by as_aux_lemma => kernel_rfl⟩
  refine Bool.and_eq_true_iff.2 ⟨?_, by rw [fact_make]; rfl⟩
  refine Bool.and_eq_true_iff.2 ⟨?_, by rw [fact_final]; rfl⟩
  refine Bool.and_eq_true_iff.2 ⟨?_, fact_enters⟩
  refine Bool.and_eq_true_iff.2 ⟨?_, by as_aux_lemma => kernel_rfl⟩
  refine Bool.and_eq_true_iff.2 ⟨?_, by as_aux_lemma => kernel_rfl⟩
  refine Bool.and_eq_true_iff.2 ⟨?_, by as_aux_lemma => kernel_rfl⟩
  refine Bool.and_eq_true_iff.2 ⟨?_, by as_aux_lemma => kernel_rfl⟩
  refine Bool.and_eq_true_iff.2 ⟨?_, by as_aux_lemma => kernel_rfl⟩
  refine Bool.and_eq_true_iff.2 ⟨?_, by as_aux_lemma => kernel_rfl⟩
  refine Bool.and_eq_true_iff.2 ⟨?_, by as_aux_lemma => kernel_rfl⟩
  refine Bool.and_eq_true_iff.2 ⟨?_, by as_aux_lemma => kernel_rfl⟩
  refine Bool.and_eq_true_iff.2 ⟨?_, by as_aux_lemma => kernel_rfl⟩
  refine Bool.and_eq_true_iff.2 ⟨?_, by as_aux_lemma => kernel_rfl⟩
  refine Bool.and_eq_true_iff.2 ⟨?_, by as_aux_lemma => kernel_rfl⟩
  refine Bool.and_eq_true_iff.2 ⟨?_, by as_aux_lemma => kernel_rfl⟩
  refine Bool.and_eq_true_iff.2 ⟨?_, by as_aux_lemma => kernel_rfl⟩
  refine Bool.and_eq_true_iff.2 ⟨?_, by as_aux_lemma => kernel_rfl⟩
  refine Bool.and_eq_true_iff.2 ⟨?_, by as_aux_lemma => kernel_rfl⟩
  refine Bool.and_eq_true_iff.2 ⟨?_, by as_aux_lemma => kernel_rfl⟩
  refine Bool.and_eq_true_iff.2 ⟨?_, by as_aux_lemma => kernel_rfl⟩
  refine Bool.and_eq_true_iff.2 ⟨?_, by as_aux_lemma => kernel_rfl⟩
  refine Bool.and_eq_true_iff.2 ⟨?_, by as_aux_lemma => kernel_rfl⟩
  refine Bool.and_eq_true_iff.2 ⟨?_, by as_aux_lemma => kernel_rfl⟩
  refine Bool.and_eq_true_iff.2 ⟨?_, by as_aux_lemma => kernel_rfl⟩
  refine Bool.and_eq_true_iff.2 ⟨?_, by as_aux_lemma => kernel_rfl⟩
  refine Bool.and_eq_true_iff.2 ⟨?_, by as_aux_lemma => kernel_rfl⟩
  as_aux_lemma => kernel_rfl
theorem shareEvenly_holds : Rows.FnExactShareEvenlySaid :=
  OpenClaim.holds_of_wide 7 Try.f7 rfl rfl rfl rfl rfl rfl rfl ⟨rfl, rfl, rfl, rfl, rfl⟩ rfl rfl rfl rfl rfl (by as_aux_lemma => kernel_rfl) Try.func7 closedShareEvenly
    (of_decide_eq_true (by as_aux_lemma => kernel_rfl)) (by unfold Func.isWrapper; rw [if_neg (by decide +kernel)]; exact ⟨rfl, rfl⟩)
    (fun os started H enc _ => liftedShareEvenly os started H enc)
#print axioms shareEvenly_holds
end Go.Proofs.Yteeadoglbkociaa
