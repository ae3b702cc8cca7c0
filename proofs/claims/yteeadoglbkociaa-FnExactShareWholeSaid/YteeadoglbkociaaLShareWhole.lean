/- The law FnExactShareWhole of the laws package returns true for every slice of integers and every integer, valid or not; it reads behind the call as before it. No condition. -/
import Derived.Test.YteeadoglbkociaaRows
import Derived.Test.YteeadoglbkociaaSw
import Derived.Test.YteeadoglbkociaaRd
import Derived.Test.YteeadoglbkociaaRi
import Derived.Test.YteeadoglbkociaaFacts
import Derived.ProofKit
import Derived.Carry
import Derived.Lib.SmallJoins
namespace Go.Proofs.Yteeadoglbkociaa
open Go.RowKit Go.Sort

set_option maxRecDepth 20000 in
set_option maxHeartbeats 400000 in
theorem lawShareWhole_big (t : Int) (A : Option Addr) (n cap : Nat) (w : World) (h : 1048576 < n) (h2 : n ≤ 9223372036854775807) :
    Calls Try.prog 8 #[.slice A n cap, .int .i64 t] w fun e w' => e = .returned (.bool true) ∧ Gr w w' := by
  go_enter Try.func8, Try.ntmps8
  go_wp2
  go_ret
  exact ⟨rfl, Gr.refl _⟩
set_option maxRecDepth 20000 in
set_option maxHeartbeats 2000000 in
theorem lawShareWhole (t : Int) (A : Option Addr) (cap : Nat) (xs ys : List Int) (C : Int) (w : World) (hr : RawI w (.slice A xs.length cap) xs) (hn : xs.length ≤ 1048576) (hys : ys.length ≤ 1048576)
    (hs : ∀ (A : Option Addr) (c : Nat) (w : World), Hid (RdI w A xs) → Calls Try.prog 44 #[.slice A xs.length c, .int .i64 t] w fun e w' => GivesI w w' e ys C)
    (hi : ∀ (A : Option Addr) (c : Nat) (w : World), Hid (RdI w A xs) → Calls Try.prog 46 #[.slice A xs.length c, .int .i64 t] w fun e w' => GivesI w w' e ys C) :
    Calls Try.prog 8 #[.slice A xs.length cap, .int .i64 t] w fun e w' => e = .returned (.bool true) ∧ Gr w w' := by
  have HS := hid hs; have HI := hid hi; have HR := hid hr
  clear hs hi hr
  go_enter Try.func8, Try.ntmps8
  go_wp2_with fail
  refine (toInt64S_any _ xs _ hn HR.out).mono ?_
  rintro e w1 ⟨rfl, x1, g1⟩
  have X1 := hid x1; have G1 := hid g1; clear x1 g1
  go_wp2_with fail
  refine (HS.out _ _ _ (hid (RdI.of_block X1.out))).mono ?_
  rintro e w2 ⟨A0, c0, rfl, o2, g2⟩
  have L2 := hid (own_lt o2); have O2 := hid o2; have G2 := hid (G1.out.trans g2); clear o2 g2 X1
  go_wp2_with fail
  refine (toInt64S_any _ xs _ hn (HR.out.keep G2.out)).mono ?_
  rintro e w3 ⟨rfl, x3, g3⟩
  have X3 := hid x3; have O3 := hid (own_gr O2.out g3); have Z3 := hid (ltb x3); have G3 := hid (G2.out.trans g3); clear x3 g3 O2
  go_wp2_with fail
  refine (HI.out _ _ _ (hid (RdI.of_block X3.out))).mono ?_
  rintro e w4 ⟨Ag, cg, rfl, o4, g4⟩
  have OG4 := hid o4; have O4 := hid (own_gr O3.out g4); have X4 := hid (g4.keep X3.out); have G4 := hid (G3.out.trans g4); clear o4 g4 O3 X3
  go_wp2_with fail
  refine (eqInt64S_any _ _ _ _ ys _ (hid (RdI.of_own OG4.out)) (hid (RdI.of_own O4.out)) hys).mono ?_
  rintro e w5 ⟨rfl, g5⟩
  have OG5 := hid (own_gr OG4.out g5); have O5 := hid (own_gr O4.out g5); have X5 := hid (g5.keep X4.out); have G5 := hid (G4.out.trans g5); clear g5 O4 X4 OG4
  go_wp2_with fail
  refine (toInt64S_any _ xs _ hn (HR.out.keep G5.out)).mono ?_
  rintro e w6 ⟨rfl, x6, g6⟩
  have Y6 := hid x6; have OG6 := hid (own_gr OG5.out g6); have O6 := hid (own_gr O5.out g6); have X6 := hid (g6.keep X5.out); have G6 := hid (G5.out.trans g6); clear x6 g6 O5 X5 OG5
  go_wp2_with fail
  refine (eqInt64S_any _ _ _ _ xs _ (hid (RdI.of_block X6.out)) (hid (RdI.of_block Y6.out)) hn).mono ?_
  rintro e w7 ⟨rfl, g7⟩
  have OG7 := hid (own_gr OG6.out g7); have O7 := hid (own_gr O6.out g7); have X7 := hid (g7.keep X6.out); have G7 := hid (G6.out.trans g7); clear g7 O6 X6 OG6 Y6
  go_wp2_with fail
  refine (markInt64S_any w2.heap.size xs.length xs.length 1 (intA xs) _ _ X7 (by rw [intA_size]; exact Nat.le_refl _) hn (by omega) (by omega)).mono ?_
  rintro e w8 ⟨rfl, _, on8⟩
  have OG8 := hid (own_only OG7.out on8 (fun ad he => Nat.ne_of_gt (Nat.lt_of_lt_of_le Z3.out (own_lt OG7.out ad he).1)))
  have R8 := hid ((RdI.of_own O7.out).only on8 (fun ad he => Nat.ne_of_lt (L2.out ad he).2))
  have G8 := hid (on8.2 w G7.out G2.out.size); clear on8 O7 X7 OG7
  go_wp2_with fail
  refine (eqInt64S_any _ _ _ _ ys _ (hid (RdI.of_own OG8.out)) R8 hys).mono ?_
  rintro e w9 ⟨rfl, g9⟩
  have OG9 := hid (own_gr OG8.out g9); have R9 := hid (R8.out.keep g9); have G9 := hid (G8.out.trans g9); clear g9 OG8 R8
  go_wp2_with fail
  refine (markOwn _ _ _ _ _ 1 _ OG9 hys (by omega) (by omega)).mono ?_
  rintro e w10 ⟨rfl, gg, hgg, on10, m10⟩
  have M10 := hid m10
  have R10 := hid (R9.out.only on10 (fun ad he => Nat.ne_of_lt (Nat.lt_of_lt_of_le (Nat.lt_trans (L2.out ad he).2 Z3.out) hgg)))
  have G10 := hid (on10.2 w G9.out (Nat.le_trans G2.out.size (Nat.le_trans (Nat.le_of_lt Z3.out) hgg))); clear on10 m10 OG9 R9
  go_wp2_with fail
  refine (heldInt64S_any _ _ _ _ _ M10 hys (by omega) (by omega)).mono ?_
  rintro e w11 ⟨rfl, g11⟩
  have M11 := hid (M10.out.keep g11); have R11 := hid (R10.out.keep g11); have G11 := hid (G10.out.trans g11); clear g11 M10 R10
  go_wp2_with fail
  refine (toInt64S_any _ xs _ hn (HR.out.keep G11.out)).mono ?_
  rintro e w12 ⟨rfl, x12, g12⟩
  have X12 := hid x12; have M12 := hid (M11.out.keep g12); have R12 := hid (R11.out.keep g12); have G12 := hid (G11.out.trans g12); clear x12 g12 M11 R11
  go_wp2_with fail
  refine (HI.out _ _ _ (hid (RdI.of_block X12.out))).mono ?_
  rintro e w13 ⟨Ah, ch, rfl, o13, g13⟩
  have RH := hid (RdI.of_own o13); have M13 := hid (M12.out.keep g13); have R13 := hid (R12.out.keep g13); have G13 := hid (G12.out.trans g13); clear o13 g13 M12 R12 X12
  go_wp2_with fail
  refine (eqInt64S_any _ _ _ _ ys _ RH R13 hys).mono ?_
  rintro e w14 ⟨rfl, g14⟩
  have M14 := hid (M13.out.keep g14); have G14 := hid (G13.out.trans g14); clear g14 M13 R13 RH
  go_wp2_with fail
  refine (heldInt64S_any _ _ _ _ _ M14 hys (by omega) (by omega)).mono ?_
  rintro e w15 ⟨rfl, g15⟩
  have G15 := hid (G14.out.trans g15); clear g15 M14
  go_wp2_with fail
  go_ret
  exact ⟨rfl, G15.out⟩

open Go.ChangeShapes Go.WideShapes Go.ChangeAt Go.Joins
theorem laidOutShareWhole : laidOutB Try.prog = true := by as_aux_lemma => kernel_rfl
set_option maxRecDepth 100000 in
theorem liftedShareWhole (os : Os) (started : os.Started) (H : Type) (enc : TypeId × Value → H) :
    ReturnsInHanded {} Try.checked os 8 .any (Rows.fnExactShareWholeSpec.pre6 enc Try.prog Try.f8 Rows.fnExactShareWholeRow.domain false) (Rows.fnExactShareWholeSpec.post enc Try.prog Try.f8 false true false false) := by
  refine returnsInHanded_of_change (C := Try.checked) ownNone started (by kernel_rfl) Try.func8
    (ChangeSpec.witness6 (enc := enc) (C := Try.checked) false ⟨#[], #[.slice none 0 0, .int .i64 0], []⟩ 8 (by kernel_rfl) (by kernel_rfl) (by kernel_rfl) (by kernel_rfl)) ?_
  intro W base args ds gs before hval0 hW _ _
  have hval : ∀ (j : Nat) t v, Try.f8.params[j]? = some t → args[j]? = some v → Value.okWide Try.prog W .any base t v := hval0
  have hW' := hW
  obtain ⟨p, q, hA0, hV, rfl, _, _⟩ := hW
  have hA : DataW.TrodAll enc Try.prog W 0 (fun _ => true) true Try.f8.params.toList args.toList ds p := hA0
  rw [Try.params8] at hA hval
  obtain ⟨v0, u1, d0, d1, p0, p1, rfl, rfl, rfl, h0, h1⟩ := trodAll_two hA
  obtain ⟨rfl, rfl⟩ := trodVars_none hV
  obtain ⟨t, rfl, rfl, rfl, wt⟩ := open_i64 (hval 1 2 u1 rfl rfl) h1
  clear hA0 hval0
  simp only [List.append_nil] at hW'
  have hlt : ∀ x ∈ p0, x.block < W.heap.size := fun x hx => by simpa using hW'.lt x hx
  have done : ∀ (e : Ending) (W' : World), e = .returned (.bool true) ∧ Gr W W' → ∃ v, e = .returned v ∧ Rows.fnExactShareWholeSpec.post enc Try.prog Try.f8 false true false false W #[v0, .int .i64 t] v W' := fun e W' ⟨he, hg⟩ => by
    subst he
    exact ⟨_, rfl, _, _, _, [], p0, [], hW', trodAll_mk1 (shut_bool Try.underlying4 _), (by have hta := trodAll_mk2 (Below.trod laidOutShareWhole (by kernel_rfl) (of_decide_eq_true (by kernel_rfl)) h0 hg.below hlt) (shut_i64 wt); simp only [List.append_nil] at hta; exact hta), rfl, hg.below.frame _, fun h => by cases h⟩
  obtain ⟨A, n, cap, rfl⟩ := okWide_slice Try.underlying54 (hval 0 54 v0 rfl rfl)
  obtain ⟨hmax, xs, rfl, hraw⟩ := open_rawI h0
  by_cases hn : xs.length ≤ 1048576
  · obtain ⟨ys, C, hys, hs, hi⟩ := bothShareWhole t xs hn
    exact (lawShareWhole t A cap xs ys C W hraw hn hys hs hi).mono done
  · exact (lawShareWhole_big t A xs.length cap W (by omega) hmax).mono done

set_option maxHeartbeats 2000000 in
theorem closedShareWhole : joinedFacts Try.pinned.checked.prog 8 Try.f8 Rows.fnExactShareWholeSpec Rows.fnExactShareWholeRow = true := by
  unfold joinedFacts
  refine Bool.and_eq_true_iff.2 ⟨?_, by as_aux_lemma => kernel_rfl⟩
  refine Bool.and_eq_true_iff.2 ⟨?_, by as_aux_lemma => kernel_rfl⟩
  refine Bool.and_eq_true_iff.2 ⟨?_, by as_aux_lemma => kernel_rfl⟩
  refine Bool.and_eq_true_iff.2 ⟨?_, by as_aux_lemma => kernel_rfl⟩
  refine Bool.and_eq_true_iff.2 ⟨?_, by rw [fact_make]; rfl⟩
  refine Bool.and_eq_true_iff.2 ⟨?_, by rw [fact_final]; rfl⟩
  refine Bool.and_eq_true_iff.2 ⟨?_, fact_enters⟩
  refine Bool.and_eq_true_iff.2 ⟨?_, by as_aux_lemma => kernel_rfl⟩
  refine Bool.and_eq_true_iff.2 ⟨?_, by as_aux_lemma => kernel_rfl⟩
  refine Bool.and_eq_true_iff.2 ⟨?_, by as_aux_lemma => kernel_rfl⟩
  refine Bool.and_eq_true_iff.2 ⟨?_, by as_aux_lemma => kernel_rfl⟩
  refine Bool.and_eq_true_iff.2 ⟨?_, by as_aux_lemma => kernel_rfl⟩
  refine Bool.and_eq_true_iff.2 ⟨?_, by as_aux_lemma => kernel_rfl⟩
  refine Bool.and_eq_true_iff.2 ⟨?_, by as_aux_lemma => kernel_rfl⟩
  refine Bool.and_eq_true_iff.2 ⟨?_, by as_aux_lemma => kernel_rfl⟩
  refine Bool.and_eq_true_iff.2 ⟨?_, by as_aux_lemma => kernel_rfl⟩
  refine Bool.and_eq_true_iff.2 ⟨?_, by as_aux_lemma => kernel_rfl⟩
  refine Bool.and_eq_true_iff.2 ⟨?_, by as_aux_lemma => kernel_rfl⟩
  refine Bool.and_eq_true_iff.2 ⟨?_, by as_aux_lemma => kernel_rfl⟩
  refine Bool.and_eq_true_iff.2 ⟨?_, by as_aux_lemma => kernel_rfl⟩
  refine Bool.and_eq_true_iff.2 ⟨?_, by as_aux_lemma => kernel_rfl⟩
  refine Bool.and_eq_true_iff.2 ⟨?_, by as_aux_lemma => kernel_rfl⟩
  refine Bool.and_eq_true_iff.2 ⟨?_, by as_aux_lemma => kernel_rfl⟩
  refine Bool.and_eq_true_iff.2 ⟨?_, by as_aux_lemma => kernel_rfl⟩
  refine Bool.and_eq_true_iff.2 ⟨?_, by as_aux_lemma => kernel_rfl⟩
  refine Bool.and_eq_true_iff.2 ⟨?_, by as_aux_lemma => kernel_rfl⟩
  refine Bool.and_eq_true_iff.2 ⟨?_, by as_aux_lemma => kernel_rfl⟩
  refine Bool.and_eq_true_iff.2 ⟨?_, by as_aux_lemma => kernel_rfl⟩
  refine Bool.and_eq_true_iff.2 ⟨?_, by as_aux_lemma => kernel_rfl⟩
  refine Bool.and_eq_true_iff.2 ⟨?_, by as_aux_lemma => kernel_rfl⟩
  as_aux_lemma => kernel_rfl
theorem shareWhole_holds : Rows.FnExactShareWholeSaid :=
  OpenClaim.holds_of_wide 8 Try.f8 rfl rfl rfl rfl rfl rfl rfl ⟨rfl, rfl, rfl, rfl, rfl⟩ rfl rfl rfl rfl rfl (by as_aux_lemma => kernel_rfl) Try.func8 closedShareWhole
    (of_decide_eq_true (by as_aux_lemma => kernel_rfl)) (by unfold Func.isWrapper; rw [if_neg (by decide +kernel)]; exact ⟨rfl, rfl⟩)
    (fun os started H enc _ => liftedShareWhole os started H enc)
#print axioms shareWhole_holds
end Go.Proofs.Yteeadoglbkociaa
