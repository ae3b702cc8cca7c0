/- The law FnExactValidChain of the laws package returns true for all arguments, chains valid or not; they read behind the call as before it. No condition. -/
import Derived.Test.YtadpoocafhddeaaRows
import Derived.Test.YtadpoocafhddeaaCw
import Derived.Test.YtadpoocafhddeaaCh
import Derived.Test.YtadpoocafhddeaaRsd
import Derived.Test.YtadpoocafhddeaaRd
import Derived.Test.YtadpoocafhddeaaFacts
import Derived.ProofKit
import Derived.Carry
import Derived.Lib.SmallJoins
namespace Go.Proofs.Ytadpoocafhddeaa
open Go.RowKit Go.Sort

set_option maxRecDepth 20000 in
set_option maxHeartbeats 1000000 in
theorem lawValidChain_big0 (xs0 : List Sdv) (A0 : Option Addr) (cap0 : Nat)  (w : World) (hr0 : RawSd w (.slice A0 xs0.length cap0) xs0) (hm0 : xs0.length ≤ 9223372036854775807) (hs0 : ∀ x ∈ xs0, x.nm.size ≤ 9223372036854775807) (hb : szTo xs0 1048576 = -1) :
    Calls Try.prog 3 #[.slice A0 xs0.length cap0] w fun e w' => e = .returned (.bool true) ∧ Gr w w' := by
  have HR0 := hid hr0; have HS0 := hid hs0; clear hr0 hs0
  have HB := hid hb
  clear hb
  go_enter Try.func3, Try.ntmps3
  go_wp2_with fail
  refine (szSd_is _ A0 _ xs0 _ _ _ rfl (HR0.out.keep (Gr.refl w)) hm0 HS0.out (by omega) (by omega) HB.out).mono ?_
  rintro e w1 ⟨rfl, hg1⟩
  have G1 := hid ((Gr.refl w).trans hg1); clear hg1
  go_wp2_with fail
  go_ret
  exact ⟨rfl, G1.out⟩
set_option maxRecDepth 20000 in
set_option maxHeartbeats 2000000 in
theorem lawValidChain (xs0 : List Sdv) (A0 : Option Addr) (cap0 : Nat)  (R0 : Bool) (w : World) (hr0 : RawSd w (.slice A0 xs0.length cap0) xs0) (hm0 : xs0.length ≤ 9223372036854775807) (hs0 : ∀ x ∈ xs0, x.nm.size ≤ 9223372036854775807) (q0 : Int) (hz0_ : szTo xs0 1048576 = q0) (p0 : 0 ≤ q0) (r0 : q0 ≤ 1048576) (hn0 : xs0.length ≤ 1048576)
    (hS : ∀ (B0 : Option Addr) (c0 : Nat) (w : World), xs0.length ≤ c0 → Hid (RdSd w B0 xs0) → Calls Try.prog 6 #[.slice B0 xs0.length c0] w fun e w' => e = .returned (.bool R0) ∧ Gr w w')
    (hI : ∀ (B0 : Option Addr) (c0 : Nat) (w : World), xs0.length ≤ c0 → Hid (RdSd w B0 xs0) → Calls Try.prog 8 #[.slice B0 xs0.length c0] w fun e w' => e = .returned (.bool R0) ∧ Gr w w') :
    Calls Try.prog 3 #[.slice A0 xs0.length cap0] w fun e w' => e = .returned (.bool true) ∧ Gr w w' := by
  have HSP := hid hS; have HIM := hid hI; clear hS hI
  have HR0 := hid hr0; have HS0 := hid hs0; have Z0 := hid hz0_; clear hr0 hs0 hz0_
  go_enter Try.func3, Try.ntmps3
  go_wp2_with fail
  refine (szSd_is _ A0 _ xs0 _ _ _ rfl (HR0.out.keep (Gr.refl w)) hm0 HS0.out (by omega) (by omega) Z0.out).mono ?_
  rintro e w1 ⟨rfl, hg1⟩
  have G1 := hid ((Gr.refl w).trans hg1); clear hg1
  go_wp2_with fail
  refine (toStandardS_any _ xs0 _ hn0 (HR0.out.keep G1.out)).mono ?_
  rintro e w2 ⟨rfl, x2, hg2⟩
  have Y2_k2 := hid x2; have G2 := hid (G1.out.trans hg2); clear hg2 x2
  go_wp2_with fail
  refine (HSP.out _ _ _ (Nat.le_refl _) (hid (RdSd.of_block Y2_k2.out))).mono ?_
  rintro e w3 ⟨rfl, hg3⟩
  have Y3_k2 := hid (hg3.keep Y2_k2.out)
  have G3 := hid (G2.out.trans hg3); clear hg3
  go_wp2_with fail
  refine (toStandardS_any _ xs0 _ hn0 (HR0.out.keep G3.out)).mono ?_
  rintro e w4 ⟨rfl, x4, hg4⟩
  have Y4_k4 := hid x4; have G4 := hid (G3.out.trans hg4); clear hg4 x4
  go_wp2_with fail
  refine (HIM.out _ _ _ (Nat.le_refl _) (hid (RdSd.of_block Y4_k4.out))).mono ?_
  rintro e w5 ⟨rfl, hg5⟩
  have Y5_k4 := hid (hg5.keep Y4_k4.out)
  have G5 := hid (G4.out.trans hg5); clear hg5
  cases R0
  all_goals
    go_wp2_with fail
    refine (toStandardS_any _ xs0 _ hn0 (HR0.out.keep G5.out)).mono ?_
    rintro e w6 ⟨rfl, x6, hg6⟩
    have Y6_k4 := hid (hg6.keep Y5_k4.out)
    have Y6_k6 := hid x6; have G6 := hid (G5.out.trans hg6); clear hg6 x6
    go_wp2_with fail
    refine (eqSd_any _ _ _ _ xs0 _ (hid (RdSd.of_block Y6_k4.out)) (hid (RdSd.of_block Y6_k6.out)) hn0).mono ?_
    rintro e w7 ⟨rfl, hg7⟩
    have Y7_k4 := hid (hg7.keep Y6_k4.out)
    have Y7_k6 := hid (hg7.keep Y6_k6.out)
    have G7 := hid (G6.out.trans hg7); clear hg7
    go_wp2_with fail
    go_ret
    exact ⟨rfl, G7.out⟩

open Go.ChangeShapes Go.WideShapes Go.ChangeAt Go.Joins
theorem laidOutValidChain : laidOutB Try.prog = true := by as_aux_lemma => kernel_rfl
set_option maxRecDepth 100000 in
theorem liftedValidChain (os : Os) (started : os.Started) (H : Type) (enc : TypeId × Value → H) :
    ReturnsInHanded {} Try.checked os 3 .any (Rows.fnExactValidChainSpec.pre6 enc Try.prog Try.f3 Rows.fnExactValidChainRow.domain false) (Rows.fnExactValidChainSpec.post enc Try.prog Try.f3 false true false false) := by
  refine returnsInHanded_of_change (C := Try.checked) ownNone started (by kernel_rfl) Try.func3
    (ChangeSpec.witness6 (enc := enc) (C := Try.checked) false ⟨#[], #[.slice none 0 0], []⟩ 8 (by kernel_rfl) (by kernel_rfl) (by kernel_rfl) (by kernel_rfl)) ?_
  intro W base args ds gs before hval0 hW _ _
  have hval : ∀ (j : Nat) t v, Try.f3.params[j]? = some t → args[j]? = some v → Value.okWide Try.prog W .any base t v := hval0
  have hW' := hW
  obtain ⟨p, q, hA0, hV, rfl, _, _⟩ := hW
  have hA : DataW.TrodAll enc Try.prog W 0 (fun _ => true) true Try.f3.params.toList args.toList ds p := hA0
  rw [Try.params3] at hA hval
  obtain ⟨v0, d0, rfl, rfl, h0⟩ := trodAll_one hA
  obtain ⟨p0, hp0⟩ : ∃ p0, p0 = p := ⟨_, rfl⟩
  subst hp0
  obtain ⟨rfl, rfl⟩ := trodVars_none hV
  clear hA0 hval0
  simp only [List.append_nil] at hW'
  have hlt : ∀ x ∈ p0, x.block < W.heap.size := fun x hx => by simpa using hW'.lt x hx
  have done : ∀ (e : Ending) (W' : World), e = .returned (.bool true) ∧ Gr W W' → ∃ v, e = .returned v ∧ Rows.fnExactValidChainSpec.post enc Try.prog Try.f3 false true false false W #[v0] v W' := fun e W' ⟨he, hg⟩ => by
    subst he
    exact ⟨_, rfl, _, _, _, [], p0, [], hW', trodAll_mk1 (shut_bool Try.underlying4 _), trodAll_mk1 (Below.trod laidOutValidChain (by kernel_rfl) (of_decide_eq_true (by kernel_rfl)) h0 hg.below fun x hx => hlt x (by simp [hx])), rfl, hg.below.frame _, fun h => by cases h⟩
  obtain ⟨A0, m0, cap0, rfl⟩ := okWide_slice Try.underlying22 (hval 0 22 v0 rfl rfl)
  obtain ⟨hm0, xs0, rfl, hraw0, hs0⟩ := open_stds h0
  have hs0 : ∀ x ∈ xs0, x.nm.size ≤ 9223372036854775807 := fun x hx => by have := hs0 x hx; unfold maxLen at this; omega
  obtain ⟨q0, hz0⟩ : ∃ q, szTo xs0 1048576 = q := ⟨_, rfl⟩
  obtain ⟨b0, r0_, n0_⟩ := szTo_bd xs0 1048576 q0 (by omega) hz0
  have r0 : q0 ≤ 1048576 := by omega
  by_cases p0_ : 0 ≤ q0
  · have hn0 : xs0.length ≤ 1048576 := by have := n0_ p0_; omega
    obtain ⟨R0, hS, hI⟩ := bothValidChain xs0  hn0
    exact (lawValidChain xs0 A0 cap0  R0 W hraw0 hm0 hs0 q0 hz0 p0_ r0 hn0 hS hI).mono done
  · have hb : szTo xs0 1048576 = -1 := by omega
    exact (lawValidChain_big0 xs0 A0 cap0  W hraw0 hm0 hs0  hb).mono done

set_option maxHeartbeats 2000000 in
theorem closedValidChain : joinedFacts Try.pinned.checked.prog 3 Try.f3 Rows.fnExactValidChainSpec Rows.fnExactValidChainRow = true := by
  unfold joinedFacts
  refine Bool.and_eq_true_iff.2 ⟨?_, by as_aux_lemma => kernel_rfl⟩
  refine Bool.and_eq_true_iff.2 ⟨?_, by as_aux_lemma => kernel_rfl⟩
  refine Bool.and_eq_true_iff.2 ⟨?_, by as_aux_lemma => kernel_rfl⟩
  refine Bool.and_eq_true_iff.2 ⟨?_, by as_aux_lemma => kernel_rfl⟩
  refine Bool.and_eq_true_iff.2 ⟨?_, by rw [fact_make]; rfl⟩
  refine Bool.and_eq_true_iff.2 ⟨?_, by rw [fact_final]; rfl⟩
  refine Bool.and_eq_true_iff.2 ⟨?_, fact_enters⟩
  refine Bool.and_eq_true_iff.2 ⟨?_, by as_aux_lemma => kernel_rfl⟩
  refine Bool.and_eq_true_iff.2 ⟨?_, by as_aux_lemma => kernel_rfl⟩
  refine Bool.and_eq_true_iff.2 ⟨?_, by as_aux_lemma => kernel_rfl⟩
  refine Bool.and_eq_true_iff.2 ⟨?_, by as_aux_lemma => kernel_rfl⟩
  refine Bool.and_eq_true_iff.2 ⟨?_, by as_aux_lemma => kernel_rfl⟩
  refine Bool.and_eq_true_iff.2 ⟨?_, by as_aux_lemma => kernel_rfl⟩
  refine Bool.and_eq_true_iff.2 ⟨?_, by as_aux_lemma => kernel_rfl⟩
  refine Bool.and_eq_true_iff.2 ⟨?_, by as_aux_lemma => kernel_rfl⟩
  refine Bool.and_eq_true_iff.2 ⟨?_, by as_aux_lemma => kernel_rfl⟩
  refine Bool.and_eq_true_iff.2 ⟨?_, by as_aux_lemma => kernel_rfl⟩
  refine Bool.and_eq_true_iff.2 ⟨?_, by as_aux_lemma => kernel_rfl⟩
  refine Bool.and_eq_true_iff.2 ⟨?_, by as_aux_lemma => kernel_rfl⟩
  refine Bool.and_eq_true_iff.2 ⟨?_, by as_aux_lemma => kernel_rfl⟩
  refine Bool.and_eq_true_iff.2 ⟨?_, by as_aux_lemma => kernel_rfl⟩
  refine Bool.and_eq_true_iff.2 ⟨?_, by as_aux_lemma => kernel_rfl⟩
  refine Bool.and_eq_true_iff.2 ⟨?_, by as_aux_lemma => kernel_rfl⟩
  refine Bool.and_eq_true_iff.2 ⟨?_, by as_aux_lemma => kernel_rfl⟩
  refine Bool.and_eq_true_iff.2 ⟨?_, by as_aux_lemma => kernel_rfl⟩
  refine Bool.and_eq_true_iff.2 ⟨?_, by as_aux_lemma => kernel_rfl⟩
  refine Bool.and_eq_true_iff.2 ⟨?_, by as_aux_lemma => kernel_rfl⟩
  refine Bool.and_eq_true_iff.2 ⟨?_, by as_aux_lemma => kernel_rfl⟩
  refine Bool.and_eq_true_iff.2 ⟨?_, by as_aux_lemma => kernel_rfl⟩
  refine Bool.and_eq_true_iff.2 ⟨?_, by as_aux_lemma => kernel_rfl⟩
  as_aux_lemma => kernel_rfl
theorem validChain_holds : Rows.FnExactValidChainSaid :=
  OpenClaim.holds_of_wide 3 Try.f3 rfl rfl rfl rfl rfl rfl rfl ⟨rfl, rfl, rfl, rfl, rfl⟩ rfl rfl rfl rfl rfl (by as_aux_lemma => kernel_rfl) Try.func3 closedValidChain
    (of_decide_eq_true (by as_aux_lemma => kernel_rfl)) (by unfold Func.isWrapper; rw [if_neg (by decide +kernel)]; exact ⟨rfl, rfl⟩)
    (fun os started H enc _ => liftedValidChain os started H enc)
#print axioms validChain_holds
end Go.Proofs.Ytadpoocafhddeaa
