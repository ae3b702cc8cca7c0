/- The law FnExactRecallOf of the laws package returns true for all arguments, chains valid or not; they read behind the call as before it. No condition. -/
import Derived.Test.YtadpoocafhddeaaDoorRows
import Derived.Test.YtadpoocafhddeaaDoorRz
import Derived.Test.YtadpoocafhddeaaDoorRx
import Derived.Test.YtadpoocafhddeaaDoorCards
import Derived.Test.YtadpoocafhddeaaDoorTie
import Derived.Test.YtadpoocafhddeaaDoorMs
import Derived.Test.YtadpoocafhddeaaDoorIv
import Derived.SevenTiedAt
import Derived.ChangeSame
import Derived.ChangeVars
import Derived.JoinedOf
import Derived.LaidLaws
import Derived.LaidHandle
import Derived.Stop.Joined
import Derived.ChangeMaps5
import Derived.Test.YtadpoocafhddeaaDoorCh
import Derived.Test.YtadpoocafhddeaaDoorRsd
import Derived.Test.YtadpoocafhddeaaDoorRd
import Derived.Test.YtadpoocafhddeaaDoorFacts
import Derived.ProofKit
import Derived.Carry
import Derived.Lib.SmallJoins
namespace Go.Proofs.YtadpoocafhddeaaDoor
open Go.RowKit Go.Sort

set_option maxRecDepth 20000 in
set_option maxHeartbeats 1000000 in
theorem lawRecallOf_big0 (xs0 : List Sdv) (A0 : Option Addr) (cap0 : Nat) (t0 : Int) (t1 : Int) (w : World) (hr0 : RawSd w (.slice A0 xs0.length cap0) xs0) (hm0 : xs0.length ≤ 9223372036854775807) (hs0 : ∀ x ∈ xs0, x.nm.size ≤ 9223372036854775807) (hb : szTo xs0 1048576 = -1) :
    Calls Tryd.prog 9 #[.slice A0 xs0.length cap0, .int .i64 t0, .int .i64 t1] w fun e w' => e = .returned (.bool true) ∧ Gr w w' := by
  have HR0 := hid hr0; have HS0 := hid hs0; clear hr0 hs0
  have HB := hid hb
  clear hb
  go_enter Tryd.func9, Tryd.ntmps9
  go_wp2_with fail
  refine (szSd_is _ A0 _ xs0 _ _ _ rfl (HR0.out.keep (Gr.refl w)) hm0 HS0.out (by omega) (by omega) HB.out).mono ?_
  rintro e w1 ⟨rfl, hg1⟩
  have G1 := hid ((Gr.refl w).trans hg1); clear hg1
  go_wp2_with fail
  go_ret
  exact ⟨rfl, G1.out⟩
set_option maxRecDepth 20000 in
set_option maxHeartbeats 2000000 in
theorem lawRecallOf (xs0 : List Sdv) (A0 : Option Addr) (cap0 : Nat) (t0 : Int) (t1 : Int) (ys : List Int) (C : Int) (w : World) (E : Hid (ErrT w)) (hr0 : RawSd w (.slice A0 xs0.length cap0) xs0) (hm0 : xs0.length ≤ 9223372036854775807) (hs0 : ∀ x ∈ xs0, x.nm.size ≤ 9223372036854775807) (q0 : Int) (hz0_ : szTo xs0 1048576 = q0) (p0 : 0 ≤ q0) (r0 : q0 ≤ 1048576) (hn0 : xs0.length ≤ 1048576) (hys : ys.length ≤ 1048576)
    (hS : ∀ (B0 : Option Addr) (c0 : Nat) (w : World), xs0.length ≤ c0 → Hid (RdSd w B0 xs0) → Calls Tryd.prog 29 #[.slice B0 xs0.length c0, .int .i64 t0, .int .i64 t1] w fun e w' => GivesI w w' e ys C)
    (hI : ∀ (B0 : Option Addr) (c0 : Nat) (w : World), xs0.length ≤ c0 → Hid (RdSd w B0 xs0) → Hid (ErrT w) → Calls Tryd.prog 30 #[.slice B0 xs0.length c0, .int .i64 t0, .int .i64 t1] w fun e w' => GivesI w w' e ys C) :
    Calls Tryd.prog 9 #[.slice A0 xs0.length cap0, .int .i64 t0, .int .i64 t1] w fun e w' => e = .returned (.bool true) ∧ Gr w w' := by
  have HSP := hid hS; have HIM := hid hI; clear hS hI
  have HR0 := hid hr0; have HS0 := hid hs0; have Z0 := hid hz0_; clear hr0 hs0 hz0_
  go_enter Tryd.func9, Tryd.ntmps9
  go_wp2_with fail
  refine (szSd_is _ A0 _ xs0 _ _ _ rfl (HR0.out.keep (Gr.refl w)) hm0 HS0.out (by omega) (by omega) Z0.out).mono ?_
  rintro e w1 ⟨rfl, hg1⟩
  have G1 := hid ((Gr.refl w).trans hg1); clear hg1
  go_wp2_with fail
  refine (toStandardS_any _ xs0 _ hn0 (HR0.out.keep G1.out)).mono ?_
  rintro e w2 ⟨rfl, x2, hg2⟩
  have Y2_k2 := hid x2; have G2 := hid (G1.out.trans hg2); clear hg2 x2
  go_wp2_with fail
  refine (HSP.out _ _ _ (Nat.le_refl _) (hid (RdSd.of_block Y2_k2.out))).mono ?_
  rintro e w5 ⟨A0', c0', rfl, o5, hg5⟩
  have L5 := hid (own_lt o5); have O5 := hid o5; have G5 := hid (G2.out.trans hg5); clear o5 hg5 Y2_k2
  go_wp2_with fail
  refine (toStandardS_any _ xs0 _ hn0 (HR0.out.keep G5.out)).mono ?_
  rintro x w6 ⟨rfl, x6, hg6⟩
  have X7 := hid x6; have Z7 := hid (ltb x6); have O7 := hid (own_gr O5.out hg6); have G7 := hid (G5.out.trans hg6); clear x6 hg6 O5
  have S7 := hid G7.out.size
  go_wp2_with fail
  refine (HIM.out _ _ _ (Nat.le_refl _) (hid (RdSd.of_block X7.out)) (hid (E.out.keep G7.out))).mono ?_
  rintro x w8 ⟨Ag, cg, rfl, o8, hg8⟩
  have LG := hid (own_lt o8); have OG8 := hid o8; have O8 := hid (own_gr O7.out hg8); have X8 := hid (hg8.keep X7.out); have G8 := hid (G7.out.trans hg8); clear o8 hg8 O7 X7
  go_wp2_with fail
  refine (eqInt64S_any _ _ _ _ ys _ (hid (RdI.of_own OG8.out)) (hid (RdI.of_own O8.out)) hys).mono ?_
  rintro x w9 ⟨rfl, hg9⟩
  have OG9 := hid (own_gr OG8.out hg9); have O9 := hid (own_gr O8.out hg9); have X9 := hid (hg9.keep X8.out); have G9 := hid (G8.out.trans hg9); clear hg9 OG8 O8 X8
  go_wp2_with fail
  refine (toStandardS_any _ xs0 _ hn0 (HR0.out.keep G9.out)).mono ?_
  rintro x w10 ⟨rfl, x10, hg10⟩
  have Y10 := hid x10; have OG10 := hid (own_gr OG9.out hg10); have O10 := hid (own_gr O9.out hg10); have X10 := hid (hg10.keep X9.out); have G10 := hid (G9.out.trans hg10); clear x10 hg10 OG9 O9 X9
  go_wp2_with fail
  refine (eqSd_any _ _ _ _ xs0 _ (hid (RdSd.of_block X10.out)) (hid (RdSd.of_block Y10.out)) hn0).mono ?_
  rintro x w11 ⟨rfl, hg11⟩
  have OG11 := hid (own_gr OG10.out hg11); have O11 := hid (own_gr O10.out hg11); have X11 := hid (hg11.keep X10.out); have G11 := hid (G10.out.trans hg11); clear hg11 OG10 O10 X10 Y10
  go_wp2_with fail
  refine (markSd_any w5.heap.size _ xs0.length 1 (rowSd xs0 []) _ _ X11 (by rw [rowSd_size]; simp) hn0 (by omega) (by omega)).mono ?_
  rintro x w12 ⟨rfl, on12⟩
  have OG12 := hid (own_only OG11.out on12 (fun ad he => Nat.ne_of_gt (Nat.lt_of_lt_of_le Z7.out (LG.out ad he).1)))
  have R12 := hid ((RdI.of_own O11.out).only on12 (fun ad he => Nat.ne_of_lt (L5.out ad he).2))
  have G12 := hid (on12.2 w G11.out G5.out.size); clear on12 OG11 O11 X11
  go_wp2_with fail
  refine (eqInt64S_any _ _ _ _ ys _ (hid (RdI.of_own OG12.out)) R12 hys).mono ?_
  rintro x w13 ⟨rfl, g13⟩
  have OG13 := hid (own_gr OG12.out g13); have R13 := hid (R12.out.keep g13); have G13 := hid (G12.out.trans g13); clear g13 OG12 R12
  go_wp2_with fail
  refine (markOwn _ _ _ _ _ 1 _ OG13 hys (by omega) (by omega)).mono ?_
  rintro x w14 ⟨rfl, gg, hgg, on14, m14⟩
  have hgw : w5.heap.size < gg := Nat.lt_of_lt_of_le Z7.out hgg
  have M14 := hid m14
  have R14 := hid (R13.out.only on14 (fun ad he => Nat.ne_of_lt (Nat.lt_trans (L5.out ad he).2 hgw)))
  have G14 := hid (on14.2 w G13.out (Nat.le_trans G5.out.size (Nat.le_of_lt hgw))); clear on14 m14 OG13 R13
  go_wp2_with fail
  refine (heldInt64S_any _ _ _ _ _ M14 hys (by omega) (by omega)).mono ?_
  rintro x w15 ⟨rfl, g15⟩
  have M15 := hid (M14.out.keep g15); have R15 := hid (R14.out.keep g15); have G15 := hid (G14.out.trans g15); clear g15 M14 R14
  go_wp2_with fail
  refine (toStandardS_any _ xs0 _ hn0 (HR0.out.keep G15.out)).mono ?_
  rintro x w17 ⟨rfl, x17, g17⟩
  have X17 := hid x17; have M17 := hid (M15.out.keep g17); have R17 := hid (R15.out.keep g17); have G17 := hid (G15.out.trans g17); clear x17 g17 M15 R15
  go_wp2_with fail
  refine (HIM.out _ _ _ (Nat.le_refl _) (hid (RdSd.of_block X17.out)) (hid (E.out.keep G17.out))).mono ?_
  rintro x w18 ⟨Ah, ch, rfl, o18, g18⟩
  have RH := hid (RdI.of_own o18); have M18 := hid (M17.out.keep g18); have R18 := hid (R17.out.keep g18); have G18 := hid (G17.out.trans g18); clear o18 g18 M17 R17 X17
  go_wp2_with fail
  refine (eqInt64S_any _ _ _ _ ys _ RH R18 hys).mono ?_
  rintro x w19 ⟨rfl, g19⟩
  have M19 := hid (M18.out.keep g19); have G19 := hid (G18.out.trans g19); clear g19 M18 R18 RH
  go_wp2_with fail
  refine (heldInt64S_any _ _ _ _ _ M19 hys (by omega) (by omega)).mono ?_
  rintro x w20 ⟨rfl, g20⟩
  have G20 := hid (G19.out.trans g20); clear g20 M19
  go_wp2_with fail
  go_ret
  exact ⟨rfl, G20.out⟩

open Go.ChangeShapes Go.WideShapes Go.ChangeAt Go.Joins
theorem laidOutRecallOf : laidOutB Tryd.prog = true := by as_aux_lemma => kernel_rfl
/-- A world in which the variable is laid. -/
noncomputable def etWorldRecallOf (os : Os) : World :=
  let w0 := World.holding Tryd.prog os ⟨#[], #[], []⟩
  { w0 with heap := w0.heap.modify 0 fun
      | .cells _ t frozen => .cells #[.iface 144 (.agg #[.pointer (some ⟨1, 64, none⟩)])] t frozen
      | o => o }
theorem etWorldRecallOf_met (os : Os) (args : Array Value) : laidMetH Tryd.prog [("errors.errorType", Rows.laid_errors_errorType)] ((etWorldRecallOf os).forCall (fun _ _ => 0) ⟨#[], args, []⟩).memory :=
  laidMetH_of_parts (laidMet_nil _ _) (by kernel_rfl)
set_option maxRecDepth 100000 in
theorem liftedRecallOf (os : Os) (started : os.Started) (H : Type) (enc : TypeId × Value → H) :
    ReturnsInHanded {} Tryd.checked os 9 .any (fun w args => (Rows.fnExactRecallOfSpec.pre enc Tryd.prog Tryd.f9 [] false w args ∧ laidMetH Tryd.prog [("errors.errorType", Rows.laid_errors_errorType)] w) ∧ sizedMet enc Tryd.prog Tryd.f9 (OpenSpec.ofChange Rows.fnExactRecallOfSpec) false w args)
      (Rows.fnExactRecallOfSpec.post enc Tryd.prog Tryd.f9 false true false false) := by
  refine returnsInHanded_of_change_and (C := Tryd.checked) (X := fun w _ => laidMetH Tryd.prog [("errors.errorType", Rows.laid_errors_errorType)] w) (fun _ _ _ hh h => h.of_heap hh) ownNone started (by kernel_rfl) Tryd.func9
    (ChangeSpec.witness_at (enc := enc) (C := Tryd.checked) (os := os) (X := fun w _ => laidMetH Tryd.prog [("errors.errorType", Rows.laid_errors_errorType)] w) false (etWorldRecallOf os) #[.slice none 0 0, .int .i64 0, .int .i64 0] 8 rfl (by kernel_rfl) (by kernel_rfl) (by kernel_rfl) (by kernel_rfl) (by kernel_rfl) (etWorldRecallOf_met os _)) ?_
  intro W base args ds gs before hval0 hW _ _ hL _
  have hE := hid (errT_of_laid hL)
  have hval : ∀ (j : Nat) t v, Tryd.f9.params[j]? = some t → args[j]? = some v → Value.okWide Tryd.prog W .any base t v := hval0
  have hW' := hW
  obtain ⟨p, q, hA0, hV, rfl, _, _⟩ := hW
  have hA : DataW.TrodAll enc Tryd.prog W 0 (fun _ => true) true Tryd.f9.params.toList args.toList ds p := hA0
  rw [Tryd.params9] at hA hval
  obtain ⟨v0, v1, v2, d0, d1, d2, p0, p1, p2, rfl, rfl, rfl, h0, h1, h2⟩ := trodAll_three hA
  obtain ⟨rfl, rfl⟩ := trodVars_none hV
  clear hA0 hval0
  simp only [List.append_nil] at hW'
  have hlt : ∀ x ∈ p0 ++ (p1 ++ p2), x.block < W.heap.size := fun x hx => by simpa using hW'.lt x (by simpa using hx)
  have done : ∀ (e : Ending) (W' : World), e = .returned (.bool true) ∧ Gr W W' → ∃ v, e = .returned v ∧ Rows.fnExactRecallOfSpec.post enc Tryd.prog Tryd.f9 false true false false W #[v0, v1, v2] v W' := fun e W' ⟨he, hg⟩ => by
    subst he
    exact ⟨_, rfl, _, _, _, [], p0 ++ (p1 ++ p2), [], hW', trodAll_mk1 (shut_bool Tryd.underlying4 _), trodAll_mk3 (Below.trod laidOutRecallOf (by kernel_rfl) (of_decide_eq_true (by kernel_rfl)) h0 hg.below fun x hx => hlt x (by simp [hx])) (Below.trod laidOutRecallOf (by kernel_rfl) (of_decide_eq_true (by kernel_rfl)) h1 hg.below fun x hx => hlt x (by simp [hx])) (Below.trod laidOutRecallOf (by kernel_rfl) (of_decide_eq_true (by kernel_rfl)) h2 hg.below fun x hx => hlt x (by simp [hx])), rfl, hg.below.frame _, fun h => by cases h⟩
  obtain ⟨A0, m0, cap0, rfl⟩ := okWide_slice Tryd.underlying22 (hval 0 22 v0 rfl rfl)
  obtain ⟨hm0, xs0, rfl, hraw0, hs0⟩ := open_stds h0
  have hs0 : ∀ x ∈ xs0, x.nm.size ≤ 9223372036854775807 := fun x hx => by have := hs0 x hx; unfold maxLen at this; omega
  obtain ⟨t0, rfl, rfl, rfl, _⟩ := open_i64 (hval 1 2 v1 rfl rfl) h1
  obtain ⟨t1, rfl, rfl, rfl, _⟩ := open_i64 (hval 2 2 v2 rfl rfl) h2
  obtain ⟨q0, hz0⟩ : ∃ q, szTo xs0 1048576 = q := ⟨_, rfl⟩
  obtain ⟨b0, r0_, n0_⟩ := szTo_bd xs0 1048576 q0 (by omega) hz0
  have r0 : q0 ≤ 1048576 := by omega
  by_cases p0_ : 0 ≤ q0
  · have hn0 : xs0.length ≤ 1048576 := by have := n0_ p0_; omega
    obtain ⟨ys, C, hys, hS, hI⟩ := bothRecallOf xs0 t0 t1 hn0
    exact (lawRecallOf xs0 A0 cap0 t0 t1 ys C W hE hraw0 hm0 hs0 q0 hz0 p0_ r0 hn0 hys hS hI).mono done
  · have hb : szTo xs0 1048576 = -1 := by omega
    exact (lawRecallOf_big0 xs0 A0 cap0 t0 t1 W hraw0 hm0 hs0 hb).mono done

set_option maxHeartbeats 2000000 in
theorem closedRecallOf : joinedFacts Tryd.pinned.checked.prog 9 Tryd.f9 Rows.fnExactRecallOfSpec Rows.fnExactRecallOfRow = true := by
  unfold joinedFacts
  refine Bool.and_eq_true_iff.2 ⟨?_, by as_aux_lemma => kernel_rfl⟩
  refine Bool.and_eq_true_iff.2 ⟨?_, by as_aux_lemma => kernel_rfl⟩
  refine Bool.and_eq_true_iff.2 ⟨?_, by as_aux_lemma => kernel_rfl⟩
  refine Bool.and_eq_true_iff.2 ⟨?_, by as_aux_lemma => kernel_rfl⟩
  refine Bool.and_eq_true_iff.2 ⟨?_, by rw [fact_make]; rfl⟩
  refine Bool.and_eq_true_iff.2 ⟨?_, by rw [fact_final]; rfl⟩
  refine Bool.and_eq_true_iff.2 ⟨?_, fact_enters⟩
  refine Bool.and_eq_true_iff.2 ⟨?_, by as_aux_lemma => kernel_rfl⟩
  refine Bool.and_eq_true_iff.2 ⟨?_, by as_aux_lemma => kernel_rfl⟩
  refine Bool.and_eq_true_iff.2 ⟨?_, by as_aux_lemma => kernel_rfl⟩
  refine Bool.and_eq_true_iff.2 ⟨?_, by as_aux_lemma => kernel_rfl⟩
  refine Bool.and_eq_true_iff.2 ⟨?_, by as_aux_lemma => kernel_rfl⟩
  refine Bool.and_eq_true_iff.2 ⟨?_, by as_aux_lemma => kernel_rfl⟩
  refine Bool.and_eq_true_iff.2 ⟨?_, by as_aux_lemma => kernel_rfl⟩
  refine Bool.and_eq_true_iff.2 ⟨?_, by as_aux_lemma => kernel_rfl⟩
  refine Bool.and_eq_true_iff.2 ⟨?_, by as_aux_lemma => kernel_rfl⟩
  refine Bool.and_eq_true_iff.2 ⟨?_, by as_aux_lemma => kernel_rfl⟩
  refine Bool.and_eq_true_iff.2 ⟨?_, by as_aux_lemma => kernel_rfl⟩
  refine Bool.and_eq_true_iff.2 ⟨?_, by as_aux_lemma => kernel_rfl⟩
  refine Bool.and_eq_true_iff.2 ⟨?_, by as_aux_lemma => kernel_rfl⟩
  refine Bool.and_eq_true_iff.2 ⟨?_, by as_aux_lemma => kernel_rfl⟩
  refine Bool.and_eq_true_iff.2 ⟨?_, by as_aux_lemma => kernel_rfl⟩
  refine Bool.and_eq_true_iff.2 ⟨?_, by as_aux_lemma => kernel_rfl⟩
  refine Bool.and_eq_true_iff.2 ⟨?_, by as_aux_lemma => kernel_rfl⟩
  refine Bool.and_eq_true_iff.2 ⟨?_, by as_aux_lemma => kernel_rfl⟩
  refine Bool.and_eq_true_iff.2 ⟨?_, by as_aux_lemma => kernel_rfl⟩
  refine Bool.and_eq_true_iff.2 ⟨?_, by as_aux_lemma => kernel_rfl⟩
  refine Bool.and_eq_true_iff.2 ⟨?_, by as_aux_lemma => kernel_rfl⟩
  refine Bool.and_eq_true_iff.2 ⟨?_, by as_aux_lemma => kernel_rfl⟩
  refine Bool.and_eq_true_iff.2 ⟨?_, by as_aux_lemma => kernel_rfl⟩
  as_aux_lemma => kernel_rfl
theorem recallOf_holds : Rows.FnExactRecallOfSaid :=
  OpenClaim.holds_of_wide 9 Tryd.f9 rfl rfl rfl rfl rfl rfl rfl ⟨rfl, rfl, rfl, rfl, rfl⟩ rfl rfl rfl rfl rfl (by as_aux_lemma => kernel_rfl) Tryd.func9 closedRecallOf
    (of_decide_eq_true (by as_aux_lemma => kernel_rfl)) (by unfold Func.isWrapper; rw [if_neg (by decide +kernel)]; exact ⟨rfl, rfl⟩)
    (fun os started H enc _ => liftedRecallOf os started H enc)
theorem recallOf_card : Rows.FnExactRecallOfCardSaid :=
  Claim7.holds_tied_plain_at .later [] [.handle] true Rows.fnExactRecallOfCard.stood.harness true
    recallOf_holds (fun _ h => by cases h) (by kernel_rfl) (fun _ h => by cases h) fnExactRecallOf_row_tie rfl ⟨rfl, rfl⟩ (by kernel_rfl) rfl
    (fun f fn hf hfn => by
      obtain rfl : f = 9 := Option.some.inj ((show Tryd.prog.funcNamed "loop.example/g01254/laws.FnExactRecallOf" = some 9 by kernel_rfl).symm.trans hf) |>.symm
      obtain rfl : fn = Tryd.f9 := (Option.some.inj (Tryd.func9.symm.trans hfn)).symm
      exact ⟨by kernel_rfl, fun j t ht => by
        rw [Tryd.params9] at ht
        have hm : t = 22 ∨ t = 2 := by
          rcases j with _ | _ | _ | j
          · exact .inl (by simpa using ht.symm)
          · exact .inr (by simpa using ht.symm)
          · exact .inr (by simpa using ht.symm)
          · simp at ht
        rcases hm with rfl | rfl
        · exact (show Tryd.prog.wantsStandIn 22 = false by kernel_rfl)
        · exact (show Tryd.prog.wantsStandIn 2 = false by kernel_rfl)⟩)
    (by kernel_rfl)
#print axioms recallOf_card
end Go.Proofs.YtadpoocafhddeaaDoor
