/- The law FnExactLastDay of the laws package returns true for all arguments, chains valid or not; they read behind the call as before it. No condition. -/
import Derived.Test.YtadpoocafhddeaaDoorRows
import Derived.Test.YtadpoocafhddeaaDoorRm
import Derived.Test.YtadpoocafhddeaaDoorRx
import Derived.Test.YtadpoocafhddeaaDoorCards
import Derived.Test.YtadpoocafhddeaaDoorTie
import Derived.SevenTiedAt
import Derived.ChangeSame
import Derived.ChangeVars
import Derived.JoinedOf
import Derived.LaidLaws
import Derived.LaidHandle
import Derived.Stop.Joined
import Derived.ChangeMaps5
import Derived.Test.YtadpoocafhddeaaDoorCh
import Derived.Test.YtadpoocafhddeaaDoorRsd
import Derived.Test.YtadpoocafhddeaaDoorRd
import Derived.Test.YtadpoocafhddeaaDoorFacts
import Derived.ProofKit
import Derived.Carry
import Derived.Lib.SmallJoins
namespace Go.Proofs.YtadpoocafhddeaaDoor
open Go.RowKit Go.Sort

set_option maxRecDepth 20000 in
set_option maxHeartbeats 1000000 in
theorem lawLastDay_big0 (xs0 : List Sdv) (A0 : Option Addr) (cap0 : Nat) (t0 : Int) (w : World) (hr0 : RawSd w (.slice A0 xs0.length cap0) xs0) (hm0 : xs0.length ≤ 9223372036854775807) (hs0 : ∀ x ∈ xs0, x.nm.size ≤ 9223372036854775807) (hb : szTo xs0 1048576 = -1) :
    Calls Tryd.prog 5 #[.slice A0 xs0.length cap0, .int .i64 t0] w fun e w' => e = .returned (.bool true) ∧ Gr w w' := by
  have HR0 := hid hr0; have HS0 := hid hs0; clear hr0 hs0
  have HB := hid hb
  clear hb
  go_enter Tryd.func5, Tryd.ntmps5
  go_wp2_with fail
  refine (szSd_is _ A0 _ xs0 _ _ _ rfl (HR0.out.keep (Gr.refl w)) hm0 HS0.out (by omega) (by omega) HB.out).mono ?_
  rintro e w1 ⟨rfl, hg1⟩
  have G1 := hid ((Gr.refl w).trans hg1); clear hg1
  go_wp2_with fail
  go_ret
  exact ⟨rfl, G1.out⟩
set_option maxRecDepth 20000 in
set_option maxHeartbeats 2000000 in
theorem lawLastDay (xs0 : List Sdv) (A0 : Option Addr) (cap0 : Nat) (t0 : Int) (R0 : Int) (R1 : Int) (w : World) (E : Hid (ErrT w)) (hr0 : RawSd w (.slice A0 xs0.length cap0) xs0) (hm0 : xs0.length ≤ 9223372036854775807) (hs0 : ∀ x ∈ xs0, x.nm.size ≤ 9223372036854775807) (q0 : Int) (hz0_ : szTo xs0 1048576 = q0) (p0 : 0 ≤ q0) (r0 : q0 ≤ 1048576) (hn0 : xs0.length ≤ 1048576)
    (hS : ∀ (B0 : Option Addr) (c0 : Nat) (w : World), xs0.length ≤ c0 → Hid (RdSd w B0 xs0) → Calls Tryd.prog 17 #[.slice B0 xs0.length c0, .int .i64 t0] w fun e w' => e = .returned (.tuple #[.int .i64 R0, .int .i64 R1]) ∧ Gr w w')
    (hI : ∀ (B0 : Option Addr) (c0 : Nat) (w : World), xs0.length ≤ c0 → Hid (RdSd w B0 xs0) → Hid (ErrT w) → Calls Tryd.prog 18 #[.slice B0 xs0.length c0, .int .i64 t0] w fun e w' => e = .returned (.tuple #[.int .i64 R0, .int .i64 R1]) ∧ Gr w w') :
    Calls Tryd.prog 5 #[.slice A0 xs0.length cap0, .int .i64 t0] w fun e w' => e = .returned (.bool true) ∧ Gr w w' := by
  have HSP := hid hS; have HIM := hid hI; clear hS hI
  have HR0 := hid hr0; have HS0 := hid hs0; have Z0 := hid hz0_; clear hr0 hs0 hz0_
  go_enter Tryd.func5, Tryd.ntmps5
  go_wp2_with fail
  refine (szSd_is _ A0 _ xs0 _ _ _ rfl (HR0.out.keep (Gr.refl w)) hm0 HS0.out (by omega) (by omega) Z0.out).mono ?_
  rintro e w1 ⟨rfl, hg1⟩
  have G1 := hid ((Gr.refl w).trans hg1); clear hg1
  go_wp2_with fail
  refine (toStandardS_any _ xs0 _ hn0 (HR0.out.keep G1.out)).mono ?_
  rintro e w2 ⟨rfl, x2, hg2⟩
  have Y2_k2 := hid x2; have G2 := hid (G1.out.trans hg2); clear hg2 x2
  go_wp2_with fail
  refine (HSP.out _ _ _ (Nat.le_refl _) (hid (RdSd.of_block Y2_k2.out))).mono ?_
  rintro e w3 ⟨rfl, hg3⟩
  have G3 := hid (G2.out.trans hg3); clear hg3
  go_wp2_with fail
  refine (toStandardS_any _ xs0 _ hn0 (HR0.out.keep G3.out)).mono ?_
  rintro e w4 ⟨rfl, x4, hg4⟩
  have Y4_k4 := hid x4; have G4 := hid (G3.out.trans hg4); clear hg4 x4
  go_wp2_with fail
  refine (HIM.out _ _ _ (Nat.le_refl _) (hid (RdSd.of_block Y4_k4.out)) (hid (E.out.keep G4.out))).mono ?_
  rintro e w5 ⟨rfl, hg5⟩
  have Y5_k4 := hid (hg5.keep Y4_k4.out)
  have G5 := hid (G4.out.trans hg5); clear hg5
  go_wp2_with fail
  refine (toStandardS_any _ xs0 _ hn0 (HR0.out.keep G5.out)).mono ?_
  rintro e w6 ⟨rfl, x6, hg6⟩
  have Y6_k4 := hid (hg6.keep Y5_k4.out)
  have Y6_k6 := hid x6; have G6 := hid (G5.out.trans hg6); clear hg6 x6
  go_wp2_with fail
  refine (eqSd_any _ _ _ _ xs0 _ (hid (RdSd.of_block Y6_k4.out)) (hid (RdSd.of_block Y6_k6.out)) hn0).mono ?_
  rintro e w7 ⟨rfl, hg7⟩
  have G7 := hid (G6.out.trans hg7); clear hg7
  go_wp2_with fail
  go_ret
  exact ⟨rfl, G7.out⟩

open Go.ChangeShapes Go.WideShapes Go.ChangeAt Go.Joins
theorem laidOutLastDay : laidOutB Tryd.prog = true := by as_aux_lemma => kernel_rfl
/-- A world in which the variable is laid. -/
noncomputable def etWorldLastDay (os : Os) : World :=
  let w0 := World.holding Tryd.prog os ⟨#[], #[], []⟩
  { w0 with heap := w0.heap.modify 0 fun
      | .cells _ t frozen => .cells #[.iface 144 (.agg #[.pointer (some ⟨1, 64, none⟩)])] t frozen
      | o => o }
theorem etWorldLastDay_met (os : Os) (args : Array Value) : laidMetH Tryd.prog [("errors.errorType", Rows.laid_errors_errorType)] ((etWorldLastDay os).forCall (fun _ _ => 0) ⟨#[], args, []⟩).memory :=
  laidMetH_of_parts (laidMet_nil _ _) (by kernel_rfl)
set_option maxRecDepth 100000 in
theorem liftedLastDay (os : Os) (started : os.Started) (H : Type) (enc : TypeId × Value → H) :
    ReturnsInHanded {} Tryd.checked os 5 .any (fun w args => (Rows.fnExactLastDaySpec.pre enc Tryd.prog Tryd.f5 [] false w args ∧ laidMetH Tryd.prog [("errors.errorType", Rows.laid_errors_errorType)] w) ∧ sizedMet enc Tryd.prog Tryd.f5 (OpenSpec.ofChange Rows.fnExactLastDaySpec) false w args)
      (Rows.fnExactLastDaySpec.post enc Tryd.prog Tryd.f5 false true false false) := by
  refine returnsInHanded_of_change_and (C := Tryd.checked) (X := fun w _ => laidMetH Tryd.prog [("errors.errorType", Rows.laid_errors_errorType)] w) (fun _ _ _ hh h => h.of_heap hh) ownNone started (by kernel_rfl) Tryd.func5
    (ChangeSpec.witness_at (enc := enc) (C := Tryd.checked) (os := os) (X := fun w _ => laidMetH Tryd.prog [("errors.errorType", Rows.laid_errors_errorType)] w) false (etWorldLastDay os) #[.slice none 0 0, .int .i64 0] 8 rfl (by kernel_rfl) (by kernel_rfl) (by kernel_rfl) (by kernel_rfl) (by kernel_rfl) (etWorldLastDay_met os _)) ?_
  intro W base args ds gs before hval0 hW _ _ hL _
  have hE := hid (errT_of_laid hL)
  have hval : ∀ (j : Nat) t v, Tryd.f5.params[j]? = some t → args[j]? = some v → Value.okWide Tryd.prog W .any base t v := hval0
  have hW' := hW
  obtain ⟨p, q, hA0, hV, rfl, _, _⟩ := hW
  have hA : DataW.TrodAll enc Tryd.prog W 0 (fun _ => true) true Tryd.f5.params.toList args.toList ds p := hA0
  rw [Tryd.params5] at hA hval
  obtain ⟨v0, v1, d0, d1, p0, p1, rfl, rfl, rfl, h0, h1⟩ := trodAll_two hA
  obtain ⟨rfl, rfl⟩ := trodVars_none hV
  clear hA0 hval0
  simp only [List.append_nil] at hW'
  have hlt : ∀ x ∈ p0 ++ p1, x.block < W.heap.size := fun x hx => by simpa using hW'.lt x (by simpa using hx)
  have done : ∀ (e : Ending) (W' : World), e = .returned (.bool true) ∧ Gr W W' → ∃ v, e = .returned v ∧ Rows.fnExactLastDaySpec.post enc Tryd.prog Tryd.f5 false true false false W #[v0, v1] v W' := fun e W' ⟨he, hg⟩ => by
    subst he
    exact ⟨_, rfl, _, _, _, [], p0 ++ p1, [], hW', trodAll_mk1 (shut_bool Tryd.underlying4 _), trodAll_mk2 (Below.trod laidOutLastDay (by kernel_rfl) (of_decide_eq_true (by kernel_rfl)) h0 hg.below fun x hx => hlt x (by simp [hx])) (Below.trod laidOutLastDay (by kernel_rfl) (of_decide_eq_true (by kernel_rfl)) h1 hg.below fun x hx => hlt x (by simp [hx])), rfl, hg.below.frame _, fun h => by cases h⟩
  obtain ⟨A0, m0, cap0, rfl⟩ := okWide_slice Tryd.underlying22 (hval 0 22 v0 rfl rfl)
  obtain ⟨hm0, xs0, rfl, hraw0, hs0⟩ := open_stds h0
  have hs0 : ∀ x ∈ xs0, x.nm.size ≤ 9223372036854775807 := fun x hx => by have := hs0 x hx; unfold maxLen at this; omega
  obtain ⟨t0, rfl, rfl, rfl, _⟩ := open_i64 (hval 1 2 v1 rfl rfl) h1
  obtain ⟨q0, hz0⟩ : ∃ q, szTo xs0 1048576 = q := ⟨_, rfl⟩
  obtain ⟨b0, r0_, n0_⟩ := szTo_bd xs0 1048576 q0 (by omega) hz0
  have r0 : q0 ≤ 1048576 := by omega
  by_cases p0_ : 0 ≤ q0
  · have hn0 : xs0.length ≤ 1048576 := by have := n0_ p0_; omega
    obtain ⟨R0, R1, hS, hI⟩ := bothLastDay xs0 t0 hn0
    exact (lawLastDay xs0 A0 cap0 t0 R0 R1 W hE hraw0 hm0 hs0 q0 hz0 p0_ r0 hn0 hS hI).mono done
  · have hb : szTo xs0 1048576 = -1 := by omega
    exact (lawLastDay_big0 xs0 A0 cap0 t0 W hraw0 hm0 hs0 hb).mono done

set_option maxHeartbeats 2000000 in
theorem closedLastDay : joinedFacts Tryd.pinned.checked.prog 5 Tryd.f5 Rows.fnExactLastDaySpec Rows.fnExactLastDayRow = true := by
  unfold joinedFacts
  refine Bool.and_eq_true_iff.2 ⟨?_, by as_aux_lemma => kernel_rfl⟩
  refine Bool.and_eq_true_iff.2 ⟨?_, by as_aux_lemma => kernel_rfl⟩
  refine Bool.and_eq_true_iff.2 ⟨?_, by as_aux_lemma => kernel_rfl⟩
  refine Bool.and_eq_true_iff.2 ⟨?_, by as_aux_lemma => kernel_rfl⟩
  refine Bool.and_eq_true_iff.2 ⟨?_, by rw [fact_make]; rfl⟩
  refine Bool.and_eq_true_iff.2 ⟨?_, by rw [fact_final]; rfl⟩
  refine Bool.and_eq_true_iff.2 ⟨?_, fact_enters⟩
  refine Bool.and_eq_true_iff.2 ⟨?_, by as_aux_lemma => kernel_rfl⟩
  refine Bool.and_eq_true_iff.2 ⟨?_, by as_aux_lemma => kernel_rfl⟩
  refine Bool.and_eq_true_iff.2 ⟨?_, by as_aux_lemma => kernel_rfl⟩
  refine Bool.and_eq_true_iff.2 ⟨?_, by as_aux_lemma => kernel_rfl⟩
  refine Bool.and_eq_true_iff.2 ⟨?_, by as_aux_lemma => kernel_rfl⟩
  refine Bool.and_eq_true_iff.2 ⟨?_, by as_aux_lemma => kernel_rfl⟩
  refine Bool.and_eq_true_iff.2 ⟨?_, by as_aux_lemma => kernel_rfl⟩
  refine Bool.and_eq_true_iff.2 ⟨?_, by as_aux_lemma => kernel_rfl⟩
  refine Bool.and_eq_true_iff.2 ⟨?_, by as_aux_lemma => kernel_rfl⟩
  refine Bool.and_eq_true_iff.2 ⟨?_, by as_aux_lemma => kernel_rfl⟩
  refine Bool.and_eq_true_iff.2 ⟨?_, by as_aux_lemma => kernel_rfl⟩
  refine Bool.and_eq_true_iff.2 ⟨?_, by as_aux_lemma => kernel_rfl⟩
  refine Bool.and_eq_true_iff.2 ⟨?_, by as_aux_lemma => kernel_rfl⟩
  refine Bool.and_eq_true_iff.2 ⟨?_, by as_aux_lemma => kernel_rfl⟩
  refine Bool.and_eq_true_iff.2 ⟨?_, by as_aux_lemma => kernel_rfl⟩
  refine Bool.and_eq_true_iff.2 ⟨?_, by as_aux_lemma => kernel_rfl⟩
  refine Bool.and_eq_true_iff.2 ⟨?_, by as_aux_lemma => kernel_rfl⟩
  refine Bool.and_eq_true_iff.2 ⟨?_, by as_aux_lemma => kernel_rfl⟩
  refine Bool.and_eq_true_iff.2 ⟨?_, by as_aux_lemma => kernel_rfl⟩
  refine Bool.and_eq_true_iff.2 ⟨?_, by as_aux_lemma => kernel_rfl⟩
  refine Bool.and_eq_true_iff.2 ⟨?_, by as_aux_lemma => kernel_rfl⟩
  refine Bool.and_eq_true_iff.2 ⟨?_, by as_aux_lemma => kernel_rfl⟩
  refine Bool.and_eq_true_iff.2 ⟨?_, by as_aux_lemma => kernel_rfl⟩
  as_aux_lemma => kernel_rfl
theorem lastDay_holds : Rows.FnExactLastDaySaid :=
  OpenClaim.holds_of_wide 5 Tryd.f5 rfl rfl rfl rfl rfl rfl rfl ⟨rfl, rfl, rfl, rfl, rfl⟩ rfl rfl rfl rfl rfl (by as_aux_lemma => kernel_rfl) Tryd.func5 closedLastDay
    (of_decide_eq_true (by as_aux_lemma => kernel_rfl)) (by unfold Func.isWrapper; rw [if_neg (by decide +kernel)]; exact ⟨rfl, rfl⟩)
    (fun os started H enc _ => liftedLastDay os started H enc)
theorem lastDay_card : Rows.FnExactLastDayCardSaid :=
  Claim7.holds_tied_plain_at .later [] [.handle] true Rows.fnExactLastDayCard.stood.harness true
    lastDay_holds (fun _ h => by cases h) (by kernel_rfl) (fun _ h => by cases h) fnExactLastDay_row_tie rfl ⟨rfl, rfl⟩ (by kernel_rfl) rfl
    (fun f fn hf hfn => by
      obtain rfl : f = 5 := Option.some.inj ((show Tryd.prog.funcNamed "loop.example/g01254/laws.FnExactLastDay" = some 5 by kernel_rfl).symm.trans hf) |>.symm
      obtain rfl : fn = Tryd.f5 := (Option.some.inj (Tryd.func5.symm.trans hfn)).symm
      exact ⟨by kernel_rfl, fun j t ht => by
        rw [Tryd.params5] at ht
        have hm : t = 22 ∨ t = 2 := by
          rcases j with _ | _ | j
          · exact .inl (by simpa using ht.symm)
          · exact .inr (by simpa using ht.symm)
          · simp at ht
        rcases hm with rfl | rfl
        · exact (show Tryd.prog.wantsStandIn 22 = false by kernel_rfl)
        · exact (show Tryd.prog.wantsStandIn 2 = false by kernel_rfl)⟩)
    (by kernel_rfl)
#print axioms lastDay_card
end Go.Proofs.YtadpoocafhddeaaDoor
