/- The law FnExactSameChain of the laws package returns true for all arguments, chains valid or not; they read behind the call as before it. No condition. -/
import Derived.Test.YtadpoocafhddeaaRows
import Derived.Test.YtadpoocafhddeaaSc
import Derived.Test.YtadpoocafhddeaaCh
import Derived.Test.YtadpoocafhddeaaRsd
import Derived.Test.YtadpoocafhddeaaRd
import Derived.Test.YtadpoocafhddeaaFacts
import Derived.ProofKit
import Derived.Carry
import Derived.Lib.SmallJoins
namespace Go.Proofs.Ytadpoocafhddeaa
open Go.RowKit Go.Sort

set_option maxRecDepth 20000 in
set_option maxHeartbeats 1000000 in
theorem lawSameChain_big0 (xs0 : List Sdv) (xs1 : List Sdv) (A0 : Option Addr) (cap0 : Nat) (A1 : Option Addr) (cap1 : Nat)  (w : World) (hr0 : RawSd w (.slice A0 xs0.length cap0) xs0) (hm0 : xs0.length ≤ 9223372036854775807) (hs0 : ∀ x ∈ xs0, x.nm.size ≤ 9223372036854775807) (_hr1 : RawSd w (.slice A1 xs1.length cap1) xs1) (_hm1 : xs1.length ≤ 9223372036854775807) (_hs1 : ∀ x ∈ xs1, x.nm.size ≤ 9223372036854775807) (hb : szTo xs0 1048576 = -1) :
    Calls Try.prog 4 #[.slice A0 xs0.length cap0, .slice A1 xs1.length cap1] w fun e w' => e = .returned (.bool true) ∧ Gr w w' := by
  have HR0 := hid hr0; have HS0 := hid hs0; clear hr0 hs0
  have HB := hid hb
  clear hb
  go_enter Try.func4, Try.ntmps4
  go_wp2_with fail
  refine (szSd_is _ A0 _ xs0 _ _ _ rfl (HR0.out.keep (Gr.refl w)) hm0 HS0.out (by omega) (by omega) HB.out).mono ?_
  rintro e w1 ⟨rfl, hg1⟩
  have G1 := hid ((Gr.refl w).trans hg1); clear hg1
  go_wp2_with fail
  go_ret
  exact ⟨rfl, G1.out⟩
set_option maxRecDepth 20000 in
set_option maxHeartbeats 1000000 in
theorem lawSameChain_big1 (xs0 : List Sdv) (xs1 : List Sdv) (A0 : Option Addr) (cap0 : Nat) (A1 : Option Addr) (cap1 : Nat)  (w : World) (hr0 : RawSd w (.slice A0 xs0.length cap0) xs0) (hm0 : xs0.length ≤ 9223372036854775807) (hs0 : ∀ x ∈ xs0, x.nm.size ≤ 9223372036854775807) (hr1 : RawSd w (.slice A1 xs1.length cap1) xs1) (hm1 : xs1.length ≤ 9223372036854775807) (hs1 : ∀ x ∈ xs1, x.nm.size ≤ 9223372036854775807) (q0 : Int) (hz0_ : szTo xs0 1048576 = q0) (p0 : 0 ≤ q0) (r0 : q0 ≤ 1048576) (hb : szTo xs1 q0 = -1) :
    Calls Try.prog 4 #[.slice A0 xs0.length cap0, .slice A1 xs1.length cap1] w fun e w' => e = .returned (.bool true) ∧ Gr w w' := by
  have HR0 := hid hr0; have HS0 := hid hs0; clear hr0 hs0
  have HR1 := hid hr1; have HS1 := hid hs1; clear hr1 hs1
  have HB := hid hb; have Z0 := hid hz0_
  clear hb hz0_
  go_enter Try.func4, Try.ntmps4
  go_wp2_with fail
  refine (szSd_is _ A0 _ xs0 _ _ _ rfl (HR0.out.keep (Gr.refl w)) hm0 HS0.out (by omega) (by omega) Z0.out).mono ?_
  rintro e w1 ⟨rfl, hg1⟩
  have G1 := hid ((Gr.refl w).trans hg1); clear hg1
  go_wp2_with fail
  refine (szSd_is _ A1 _ xs1 _ _ _ rfl (HR1.out.keep G1.out) hm1 HS1.out p0 r0 HB.out).mono ?_
  rintro e w2 ⟨rfl, hg2⟩
  have G2 := hid (G1.out.trans hg2); clear hg2
  go_wp2_with fail
  go_ret
  exact ⟨rfl, G2.out⟩
set_option maxRecDepth 20000 in
set_option maxHeartbeats 2000000 in
theorem lawSameChain (xs0 : List Sdv) (xs1 : List Sdv) (A0 : Option Addr) (cap0 : Nat) (A1 : Option Addr) (cap1 : Nat)  (R0 : Bool) (w : World) (hr0 : RawSd w (.slice A0 xs0.length cap0) xs0) (hm0 : xs0.length ≤ 9223372036854775807) (hs0 : ∀ x ∈ xs0, x.nm.size ≤ 9223372036854775807) (hr1 : RawSd w (.slice A1 xs1.length cap1) xs1) (hm1 : xs1.length ≤ 9223372036854775807) (hs1 : ∀ x ∈ xs1, x.nm.size ≤ 9223372036854775807) (q0 : Int) (hz0_ : szTo xs0 1048576 = q0) (p0 : 0 ≤ q0) (r0 : q0 ≤ 1048576) (hn0 : xs0.length ≤ 1048576) (q1 : Int) (hz1_ : szTo xs1 q0 = q1) (p1 : 0 ≤ q1) (r1 : q1 ≤ 1048576) (hn1 : xs1.length ≤ 1048576)
    (hS : ∀ (B0 : Option Addr) (c0 : Nat) (B1 : Option Addr) (c1 : Nat) (w : World), Hid (RdSd w B0 xs0) → Hid (RdSd w B1 xs1) → Calls Try.prog 10 #[.slice B0 xs0.length c0, .slice B1 xs1.length c1] w fun e w' => e = .returned (.bool R0) ∧ Gr w w')
    (hI : ∀ (B0 : Option Addr) (c0 : Nat) (B1 : Option Addr) (c1 : Nat) (w : World), Hid (RdSd w B0 xs0) → Hid (RdSd w B1 xs1) → Calls Try.prog 11 #[.slice B0 xs0.length c0, .slice B1 xs1.length c1] w fun e w' => e = .returned (.bool R0) ∧ Gr w w') :
    Calls Try.prog 4 #[.slice A0 xs0.length cap0, .slice A1 xs1.length cap1] w fun e w' => e = .returned (.bool true) ∧ Gr w w' := by
  have HSP := hid hS; have HIM := hid hI; clear hS hI
  have HR0 := hid hr0; have HS0 := hid hs0; have Z0 := hid hz0_; clear hr0 hs0 hz0_
  have HR1 := hid hr1; have HS1 := hid hs1; have Z1 := hid hz1_; clear hr1 hs1 hz1_
  go_enter Try.func4, Try.ntmps4
  go_wp2_with fail
  refine (szSd_is _ A0 _ xs0 _ _ _ rfl (HR0.out.keep (Gr.refl w)) hm0 HS0.out (by omega) (by omega) Z0.out).mono ?_
  rintro e w1 ⟨rfl, hg1⟩
  have G1 := hid ((Gr.refl w).trans hg1); clear hg1
  go_wp2_with fail
  refine (szSd_is _ A1 _ xs1 _ _ _ rfl (HR1.out.keep G1.out) hm1 HS1.out p0 r0 Z1.out).mono ?_
  rintro e w2 ⟨rfl, hg2⟩
  have G2 := hid (G1.out.trans hg2); clear hg2
  go_wp2_with fail
  refine (toStandardS_any _ xs0 _ hn0 (HR0.out.keep G2.out)).mono ?_
  rintro e w3 ⟨rfl, x3, hg3⟩
  have Y3_k3 := hid x3; have G3 := hid (G2.out.trans hg3); clear hg3 x3
  go_wp2_with fail
  refine (toStandardS_any _ xs1 _ hn1 (HR1.out.keep G3.out)).mono ?_
  rintro e w4 ⟨rfl, x4, hg4⟩
  have Y4_k3 := hid (hg4.keep Y3_k3.out)
  have Y4_k4 := hid x4; have G4 := hid (G3.out.trans hg4); clear hg4 x4
  go_wp2_with fail
  refine (HSP.out _ _ _ _ _ (hid (RdSd.of_block Y4_k3.out)) (hid (RdSd.of_block Y4_k4.out))).mono ?_
  rintro e w5 ⟨rfl, hg5⟩
  have Y5_k3 := hid (hg5.keep Y4_k3.out)
  have Y5_k4 := hid (hg5.keep Y4_k4.out)
  have G5 := hid (G4.out.trans hg5); clear hg5
  go_wp2_with fail
  refine (toStandardS_any _ xs0 _ hn0 (HR0.out.keep G5.out)).mono ?_
  rintro e w6 ⟨rfl, x6, hg6⟩
  have Y6_k6 := hid x6; have G6 := hid (G5.out.trans hg6); clear hg6 x6
  go_wp2_with fail
  refine (toStandardS_any _ xs1 _ hn1 (HR1.out.keep G6.out)).mono ?_
  rintro e w7 ⟨rfl, x7, hg7⟩
  have Y7_k6 := hid (hg7.keep Y6_k6.out)
  have Y7_k7 := hid x7; have G7 := hid (G6.out.trans hg7); clear hg7 x7
  go_wp2_with fail
  refine (HIM.out _ _ _ _ _ (hid (RdSd.of_block Y7_k6.out)) (hid (RdSd.of_block Y7_k7.out))).mono ?_
  rintro e w8 ⟨rfl, hg8⟩
  have Y8_k6 := hid (hg8.keep Y7_k6.out)
  have Y8_k7 := hid (hg8.keep Y7_k7.out)
  have G8 := hid (G7.out.trans hg8); clear hg8
  cases R0
  all_goals
    go_wp2_with fail
    refine (toStandardS_any _ xs0 _ hn0 (HR0.out.keep G8.out)).mono ?_
    rintro e w9 ⟨rfl, x9, hg9⟩
    have Y9_k6 := hid (hg9.keep Y8_k6.out)
    have Y9_k7 := hid (hg9.keep Y8_k7.out)
    have Y9_k9 := hid x9; have G9 := hid (G8.out.trans hg9); clear hg9 x9
    go_wp2_with fail
    refine (eqSd_any _ _ _ _ xs0 _ (hid (RdSd.of_block Y9_k6.out)) (hid (RdSd.of_block Y9_k9.out)) hn0).mono ?_
    rintro e w10 ⟨rfl, hg10⟩
    have Y10_k6 := hid (hg10.keep Y9_k6.out)
    have Y10_k7 := hid (hg10.keep Y9_k7.out)
    have Y10_k9 := hid (hg10.keep Y9_k9.out)
    have G10 := hid (G9.out.trans hg10); clear hg10
    go_wp2_with fail
    refine (toStandardS_any _ xs1 _ hn1 (HR1.out.keep G10.out)).mono ?_
    rintro e w11 ⟨rfl, x11, hg11⟩
    have Y11_k6 := hid (hg11.keep Y10_k6.out)
    have Y11_k7 := hid (hg11.keep Y10_k7.out)
    have Y11_k9 := hid (hg11.keep Y10_k9.out)
    have Y11_k11 := hid x11; have G11 := hid (G10.out.trans hg11); clear hg11 x11
    go_wp2_with fail
    refine (eqSd_any _ _ _ _ xs1 _ (hid (RdSd.of_block Y11_k7.out)) (hid (RdSd.of_block Y11_k11.out)) hn1).mono ?_
    rintro e w12 ⟨rfl, hg12⟩
    have Y12_k6 := hid (hg12.keep Y11_k6.out)
    have Y12_k7 := hid (hg12.keep Y11_k7.out)
    have Y12_k9 := hid (hg12.keep Y11_k9.out)
    have Y12_k11 := hid (hg12.keep Y11_k11.out)
    have G12 := hid (G11.out.trans hg12); clear hg12
    go_wp2_with fail
    go_ret
    exact ⟨rfl, G12.out⟩

open Go.ChangeShapes Go.WideShapes Go.ChangeAt Go.Joins
theorem laidOutSameChain : laidOutB Try.prog = true := by as_aux_lemma => kernel_rfl
set_option maxRecDepth 100000 in
theorem liftedSameChain (os : Os) (started : os.Started) (H : Type) (enc : TypeId × Value → H) :
    ReturnsInHanded {} Try.checked os 4 .any (Rows.fnExactSameChainSpec.pre6 enc Try.prog Try.f4 Rows.fnExactSameChainRow.domain false) (Rows.fnExactSameChainSpec.post enc Try.prog Try.f4 false true false false) := by
  refine returnsInHanded_of_change (C := Try.checked) ownNone started (by kernel_rfl) Try.func4
    (ChangeSpec.witness6 (enc := enc) (C := Try.checked) false ⟨#[], #[.slice none 0 0, .slice none 0 0], []⟩ 8 (by kernel_rfl) (by kernel_rfl) (by kernel_rfl) (by kernel_rfl)) ?_
  intro W base args ds gs before hval0 hW _ _
  have hval : ∀ (j : Nat) t v, Try.f4.params[j]? = some t → args[j]? = some v → Value.okWide Try.prog W .any base t v := hval0
  have hW' := hW
  obtain ⟨p, q, hA0, hV, rfl, _, _⟩ := hW
  have hA : DataW.TrodAll enc Try.prog W 0 (fun _ => true) true Try.f4.params.toList args.toList ds p := hA0
  rw [Try.params4] at hA hval
  obtain ⟨v0, v1, d0, d1, p0, p1, rfl, rfl, rfl, h0, h1⟩ := trodAll_two hA
  obtain ⟨rfl, rfl⟩ := trodVars_none hV
  clear hA0 hval0
  simp only [List.append_nil] at hW'
  have hlt : ∀ x ∈ p0 ++ p1, x.block < W.heap.size := fun x hx => by simpa using hW'.lt x hx
  have done : ∀ (e : Ending) (W' : World), e = .returned (.bool true) ∧ Gr W W' → ∃ v, e = .returned v ∧ Rows.fnExactSameChainSpec.post enc Try.prog Try.f4 false true false false W #[v0, v1] v W' := fun e W' ⟨he, hg⟩ => by
    subst he
    exact ⟨_, rfl, _, _, _, [], p0 ++ p1, [], hW', trodAll_mk1 (shut_bool Try.underlying4 _), trodAll_mk2 (Below.trod laidOutSameChain (by kernel_rfl) (of_decide_eq_true (by kernel_rfl)) h0 hg.below fun x hx => hlt x (by simp [hx])) (Below.trod laidOutSameChain (by kernel_rfl) (of_decide_eq_true (by kernel_rfl)) h1 hg.below fun x hx => hlt x (by simp [hx])), rfl, hg.below.frame _, fun h => by cases h⟩
  obtain ⟨A0, m0, cap0, rfl⟩ := okWide_slice Try.underlying22 (hval 0 22 v0 rfl rfl)
  obtain ⟨hm0, xs0, rfl, hraw0, hs0⟩ := open_stds h0
  have hs0 : ∀ x ∈ xs0, x.nm.size ≤ 9223372036854775807 := fun x hx => by have := hs0 x hx; unfold maxLen at this; omega
  obtain ⟨A1, m1, cap1, rfl⟩ := okWide_slice Try.underlying22 (hval 1 22 v1 rfl rfl)
  obtain ⟨hm1, xs1, rfl, hraw1, hs1⟩ := open_stds h1
  have hs1 : ∀ x ∈ xs1, x.nm.size ≤ 9223372036854775807 := fun x hx => by have := hs1 x hx; unfold maxLen at this; omega
  obtain ⟨q0, hz0⟩ : ∃ q, szTo xs0 1048576 = q := ⟨_, rfl⟩
  obtain ⟨b0, r0_, n0_⟩ := szTo_bd xs0 1048576 q0 (by omega) hz0
  have r0 : q0 ≤ 1048576 := by omega
  by_cases p0_ : 0 ≤ q0
  · have hn0 : xs0.length ≤ 1048576 := by have := n0_ p0_; omega
    obtain ⟨q1, hz1⟩ : ∃ q, szTo xs1 q0 = q := ⟨_, rfl⟩
    obtain ⟨b1, r1_, n1_⟩ := szTo_bd xs1 q0 q1 (by omega) hz1
    have r1 : q1 ≤ 1048576 := by omega
    by_cases p1_ : 0 ≤ q1
    · have hn1 : xs1.length ≤ 1048576 := by have := n1_ p1_; omega
      obtain ⟨R0, hS, hI⟩ := bothSameChain xs0 xs1  hn0 hn1
      exact (lawSameChain xs0 xs1 A0 cap0 A1 cap1  R0 W hraw0 hm0 hs0 hraw1 hm1 hs1 q0 hz0 p0_ r0 hn0 q1 hz1 p1_ r1 hn1 hS hI).mono done
    · have hb : szTo xs1 q0 = -1 := by omega
      exact (lawSameChain_big1 xs0 xs1 A0 cap0 A1 cap1  W hraw0 hm0 hs0 hraw1 hm1 hs1 q0 hz0 p0_ r0 hb).mono done
  · have hb : szTo xs0 1048576 = -1 := by omega
    exact (lawSameChain_big0 xs0 xs1 A0 cap0 A1 cap1  W hraw0 hm0 hs0 hraw1 hm1 hs1  hb).mono done

set_option maxHeartbeats 2000000 in
theorem closedSameChain : joinedFacts Try.pinned.checked.prog 4 Try.f4 Rows.fnExactSameChainSpec Rows.fnExactSameChainRow = true := by
  unfold joinedFacts
  refine Bool.and_eq_true_iff.2 ⟨?_, by as_aux_lemma => kernel_rfl⟩
  refine Bool.and_eq_true_iff.2 ⟨?_, by as_aux_lemma => kernel_rfl⟩
  refine Bool.and_eq_true_iff.2 ⟨?_, by as_aux_lemma => kernel_rfl⟩
  refine Bool.and_eq_true_iff.2 ⟨?_, by as_aux_lemma => kernel_rfl⟩
  refine Bool.and_eq_true_iff.2 ⟨?_, by rw [fact_make]; rfl⟩
  refine Bool.and_eq_true_iff.2 ⟨?_, by rw [fact_final]; rfl⟩
  refine Bool.and_eq_true_iff.2 ⟨?_, fact_enters⟩
  refine Bool.and_eq_true_iff.2 ⟨?_, by as_aux_lemma => kernel_rfl⟩
  refine Bool.and_eq_true_iff.2 ⟨?_, by as_aux_lemma => kernel_rfl⟩
  refine Bool.and_eq_true_iff.2 ⟨?_, by as_aux_lemma => kernel_rfl⟩
  refine Bool.and_eq_true_iff.2 ⟨?_, by as_aux_lemma => kernel_rfl⟩
  refine Bool.and_eq_true_iff.2 ⟨?_, by as_aux_lemma => kernel_rfl⟩
  refine Bool.and_eq_true_iff.2 ⟨?_, by as_aux_lemma => kernel_rfl⟩
  refine Bool.and_eq_true_iff.2 ⟨?_, by as_aux_lemma => kernel_rfl⟩
  refine Bool.and_eq_true_iff.2 ⟨?_, by as_aux_lemma => kernel_rfl⟩
  refine Bool.and_eq_true_iff.2 ⟨?_, by as_aux_lemma => kernel_rfl⟩
  refine Bool.and_eq_true_iff.2 ⟨?_, by as_aux_lemma => kernel_rfl⟩
  refine Bool.and_eq_true_iff.2 ⟨?_, by as_aux_lemma => kernel_rfl⟩
  refine Bool.and_eq_true_iff.2 ⟨?_, by as_aux_lemma => kernel_rfl⟩
  refine Bool.and_eq_true_iff.2 ⟨?_, by as_aux_lemma => kernel_rfl⟩
  refine Bool.and_eq_true_iff.2 ⟨?_, by as_aux_lemma => kernel_rfl⟩
  refine Bool.and_eq_true_iff.2 ⟨?_, by as_aux_lemma => kernel_rfl⟩
  refine Bool.and_eq_true_iff.2 ⟨?_, by as_aux_lemma => kernel_rfl⟩
  refine Bool.and_eq_true_iff.2 ⟨?_, by as_aux_lemma => kernel_rfl⟩
  refine Bool.and_eq_true_iff.2 ⟨?_, by as_aux_lemma => kernel_rfl⟩
  refine Bool.and_eq_true_iff.2 ⟨?_, by as_aux_lemma => kernel_rfl⟩
  refine Bool.and_eq_true_iff.2 ⟨?_, by as_aux_lemma => kernel_rfl⟩
  refine Bool.and_eq_true_iff.2 ⟨?_, by as_aux_lemma => kernel_rfl⟩
  refine Bool.and_eq_true_iff.2 ⟨?_, by as_aux_lemma => kernel_rfl⟩
  refine Bool.and_eq_true_iff.2 ⟨?_, by as_aux_lemma => kernel_rfl⟩
  as_aux_lemma => kernel_rfl
theorem sameChain_holds : Rows.FnExactSameChainSaid :=
  OpenClaim.holds_of_wide 4 Try.f4 rfl rfl rfl rfl rfl rfl rfl ⟨rfl, rfl, rfl, rfl, rfl⟩ rfl rfl rfl rfl rfl (by as_aux_lemma => kernel_rfl) Try.func4 closedSameChain
    (of_decide_eq_true (by as_aux_lemma => kernel_rfl)) (by unfold Func.isWrapper; rw [if_neg (by decide +kernel)]; exact ⟨rfl, rfl⟩)
    (fun os started H enc _ => liftedSameChain os started H enc)
#print axioms sameChain_holds
end Go.Proofs.Ytadpoocafhddeaa
