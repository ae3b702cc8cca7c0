/- The law FnExactValueFrom of the laws package returns true for every slice of readers and every slice of readings, valid or not; they read behind the call as before it. No condition. -/
import Derived.Test.YtfpcbgfcachlgaaRows
import Derived.Test.YtfpcbgfcachlgaaVx
import Derived.Test.YtfpcbgfcachlgaaRh
import Derived.Test.YtfpcbgfcachlgaaRe
import Derived.Test.YtfpcbgfcachlgaaRj
import Derived.Test.YtfpcbgfcachlgaaFacts
import Derived.ProofKit
import Derived.Carry
import Derived.Lib.SmallJoins
namespace Go.Proofs.Ytfpcbgfcachlgaa
open Go.RowKit Go.Sort

set_option maxRecDepth 20000 in
set_option maxHeartbeats 4000000 in
theorem lawValueFrom (A B : Option Addr) (cap capB : Nat) (xs : List Rqv) (ns : List Int) (v : Spv) (C q0 : Int) (w : World) (hr : RawRq w (.slice A xs.length cap) xs) (hrB : RawI w (.slice B ns.length capB) ns) (hn : xs.length ≤ 1048576) (hm : ns.length ≤ 1048576) (hmax : xs.length ≤ 9223372036854775807) (hz : ∀ x ∈ xs, x.nm.size ≤ 9223372036854775807) (hq : szToR xs 1048576 = q0) (hp : 0 ≤ q0)
    (hs : ∀ (g : Nat) (B : Option Addr) (c d : Nat) (w : World), Hid (RdRq w (some ⟨g, 0, none⟩) xs) → Hid (RdI w B ns) → Calls Try.prog 40 #[.slice (some ⟨g, 0, none⟩) xs.length c, .slice B ns.length d] w fun e w' => e = .returned (.tuple #[vN v, .int .i64 C]) ∧ Gr w w')
    (hi : ∀ (g : Nat) (B : Option Addr) (c d : Nat) (w : World), Hid (RdRq w (some ⟨g, 0, none⟩) xs) → Hid (RdI w B ns) → Calls Try.prog 42 #[.slice (some ⟨g, 0, none⟩) xs.length c, .slice B ns.length d] w fun e w' => e = .returned (.tuple #[vN v, .int .i64 C]) ∧ Gr w w') :
    Calls Try.prog 7 #[.slice A xs.length cap, .slice B ns.length capB] w fun x w' => x = .returned (.bool true) ∧ Gr w w' := by
  have HS := hid hs; have HI := hid hi; have HR := hid hr; have HRB := hid hrB
  have HSZ := hid fun (w : World) (h : RawRq w (.slice A xs.length cap) xs) => szRq_is _ A cap xs 1048576 q0 w rfl h hmax hz (by omega) (by omega) hq
  clear hs hi hr hrB hz hq hmax
  go_enter Try.func7, Try.ntmps7
  go_wp2_with fail
  refine (HSZ.out _ HR.out).mono ?_
  rintro e w1 ⟨rfl, hg1⟩
  have G1 := hid hg1; clear hg1
  go_wp2_with fail
  refine (toReaderS_any _ xs _ hn (HR.out.keep G1.out)).mono ?_
  rintro e w2 ⟨rfl, x2, hg2⟩
  have X2 := hid x2; have G2 := hid (G1.out.trans hg2); clear x2 hg2
  go_wp2_with fail
  refine (toInt64S_any _ ns _ hm (HRB.out.keep G2.out)).mono ?_
  rintro e w3 ⟨rfl, x3, hg3⟩
  have Y3 := hid x3; have X3 := hid (hg3.keep X2.out); have G3 := hid (G2.out.trans hg3); clear x3 hg3 X2
  go_wp2_with fail
  refine (HS.out _ _ _ _ _ (hid (RdRq.of_block X3.out)) (hid (RdI.of_block Y3.out))).mono ?_
  rintro e w4 ⟨rfl, hg4⟩
  have hv4 := (alloc1 (w := w4) (A := .cells #[.int .i64 v.a, .int .i64 v.b, .int .i64 v.c, .int .i64 v.d] 85) (Gr.refl _)).1
  have V4 := hid hv4; have G4 := hid ((G3.out.trans hg4).al (.cells #[.int .i64 v.a, .int .i64 v.b, .int .i64 v.c, .int .i64 v.d] 85))
  clear hv4 hg4 X3 Y3
  obtain ⟨_, _, _, _⟩ := cells4 V4.out
  have _ := ltb V4.out
  go_wp2_with fail
  have alg : (w4.alloc (.cells #[.int .i64 v.a, .int .i64 v.b, .int .i64 v.c, .int .i64 v.d] 85)).heap.size = w4.heap.size + 1 := by simp
  refine (toReaderS_any _ xs _ hn (HR.out.keep G4.out)).mono ?_
  rintro e w5 ⟨he, x5, hg5⟩
  rw [alg] at he x5
  subst he
  clear alg
  have X5 := hid x5; have V5 := hid (hg5.keep V4.out); have G5 := hid (G4.out.trans hg5); clear x5 hg5 V4
  go_wp2_with fail
  refine (toInt64S_any _ ns _ hm (HRB.out.keep G5.out)).mono ?_
  rintro e w6 ⟨rfl, x6, hg6⟩
  have Y6 := hid x6; have X6 := hid (hg6.keep X5.out); have V6 := hid (hg6.keep V5.out); have G6 := hid (G5.out.trans hg6); clear x6 hg6 X5 V5
  go_wp2_with fail
  refine (HI.out _ _ _ _ _ (hid (RdRq.of_block X6.out)) (hid (RdI.of_block Y6.out))).mono ?_
  rintro e w7 ⟨rfl, hg7⟩
  have hal := hg7.trans ((Gr.refl w7).al (.cells #[.int .i64 v.a, .int .i64 v.b, .int .i64 v.c, .int .i64 v.d] 85))
  have P7 := hid (alloc1 (w := w7) (A := .cells #[.int .i64 v.a, .int .i64 v.b, .int .i64 v.c, .int .i64 v.d] 85) (Gr.refl _)).1
  have V7a := hid (hg7.keep V6.out)
  have Y7 := hid (hal.keep Y6.out); have X7 := hid (hal.keep X6.out); have V7 := hid (hal.keep V6.out); have G7 := hid (G6.out.trans hal)
  clear hal hg7 X6 Y6 V6
  obtain ⟨_, _, _, _⟩ := cells4 V7a.out
  have _ := ltb V7a.out
  go_wp2_with fail
  refine (eqSpan_any _ _ _ _ _).mono ?_
  rintro e w8 ⟨rfl, hg8⟩
  have Y8 := hid (hg8.keep Y7.out); have X8 := hid (hg8.keep X7.out); have G8 := hid (G7.out.trans hg8); clear hg8 X7 Y7
  go_wp2_with fail
  refine (toReaderS_any _ xs _ hn (HR.out.keep G8.out)).mono ?_
  rintro e w9 ⟨rfl, x9, hg9⟩
  have XN := hid x9; have Y9 := hid (hg9.keep Y8.out); have X9 := hid (hg9.keep X8.out); have G9 := hid (G8.out.trans hg9); clear x9 hg9 X8 Y8
  go_wp2_with fail
  refine (eqRqq_any _ _ _ _ xs _ (hid (RdRq.of_block X9.out)) (hid (RdRq.of_block XN.out)) hn).mono ?_
  rintro e w10 ⟨rfl, hg10⟩
  have Y10 := hid (hg10.keep Y9.out); have G10 := hid (G9.out.trans hg10); clear hg10 Y9 X9 XN
  go_wp2_with fail
  refine (toInt64S_any _ ns _ hm (HRB.out.keep G10.out)).mono ?_
  rintro e w11 ⟨rfl, x11, hg11⟩
  have YN := hid x11; have Y11 := hid (hg11.keep Y10.out); have G11 := hid (G10.out.trans hg11); clear x11 hg11 Y10
  go_wp2_with fail
  refine (eqInt64S_any _ _ _ _ ns _ (hid (RdI.of_block Y11.out)) (hid (RdI.of_block YN.out)) hm).mono ?_
  rintro e w12 ⟨rfl, hg12⟩
  have G12 := hid (G11.out.trans hg12); clear hg12
  go_wp2_with fail
  go_ret
  exact ⟨rfl, G12.out⟩
set_option maxRecDepth 20000 in
set_option maxHeartbeats 400000 in
theorem lawValueFrom_big (A B : Option Addr) (cap capB : Nat) (xs : List Rqv) (m : Nat) (w : World) (hr : RawRq w (.slice A xs.length cap) xs) (hm : m ≤ 1048576) (hmax : xs.length ≤ 9223372036854775807) (hz : ∀ x ∈ xs, x.nm.size ≤ 9223372036854775807) (hq : szToR xs 1048576 = -1) :
    Calls Try.prog 7 #[.slice A xs.length cap, .slice B m capB] w fun e w' => e = .returned (.bool true) ∧ Gr w w' := by
  have HSZ := hid fun (w : World) (h : RawRq w (.slice A xs.length cap) xs) => szRq_is _ A cap xs 1048576 (-1) w rfl h hmax hz (by omega) (by omega) hq
  have HR := hid hr
  clear hz hq hmax hr
  go_enter Try.func7, Try.ntmps7
  go_wp2_with fail
  refine (HSZ.out _ HR.out).mono ?_
  rintro e w1 ⟨rfl, hg1⟩
  have G1 := hid hg1; clear hg1
  go_wp2_with fail
  go_ret
  exact ⟨rfl, G1.out⟩
set_option maxRecDepth 20000 in
set_option maxHeartbeats 400000 in
theorem lawValueFrom_big2 (A B : Option Addr) (n cap m capB : Nat) (w : World) (h : 1048576 < m) (h2 : m ≤ 9223372036854775807) :
    Calls Try.prog 7 #[.slice A n cap, .slice B m capB] w fun e w' => e = .returned (.bool true) ∧ Gr w w' := by
  go_enter Try.func7, Try.ntmps7
  go_wp2
  go_ret
  exact ⟨rfl, Gr.refl _⟩
open Go.ChangeShapes Go.WideShapes Go.ChangeAt Go.Joins
theorem laidOutValueFrom : laidOutB Try.prog = true := by as_aux_lemma => kernel_rfl
set_option maxRecDepth 100000 in
theorem liftedValueFrom (os : Os) (started : os.Started) (H : Type) (enc : TypeId × Value → H) :
    ReturnsInHanded {} Try.checked os 7 .any (Rows.fnExactValueFromSpec.pre6 enc Try.prog Try.f7 Rows.fnExactValueFromRow.domain false) (Rows.fnExactValueFromSpec.post enc Try.prog Try.f7 false true false false) := by
  refine returnsInHanded_of_change (C := Try.checked) ownNone started (by kernel_rfl) Try.func7
    (ChangeSpec.witness6 (enc := enc) (C := Try.checked) false ⟨#[], #[.slice none 0 0, .slice none 0 0], []⟩ 8 (by kernel_rfl) (by kernel_rfl) (by kernel_rfl) (by kernel_rfl)) ?_
  intro W base args ds gs before hval0 hW _ _
  have hval : ∀ (j : Nat) t v, Try.f7.params[j]? = some t → args[j]? = some v → Value.okWide Try.prog W .any base t v := hval0
  have hW' := hW
  obtain ⟨p, q, hA0, hV, rfl, _, _⟩ := hW
  have hA : DataW.TrodAll enc Try.prog W 0 (fun _ => true) true Try.f7.params.toList args.toList ds p := hA0
  rw [Try.params7] at hA hval
  obtain ⟨u0, u1, d0, d1, p0, p1, rfl, rfl, rfl, h0, h1⟩ := trodAll_two hA
  obtain ⟨rfl, rfl⟩ := trodVars_none hV
  clear hA0 hval0
  simp only [List.append_nil] at hW'
  have hlt : ∀ x ∈ p0 ++ p1, x.block < W.heap.size := fun x hx => by simpa using hW'.lt x hx
  have done : ∀ (e : Ending) (W' : World), e = .returned (.bool true) ∧ Gr W W' → ∃ v, e = .returned v ∧ Rows.fnExactValueFromSpec.post enc Try.prog Try.f7 false true false false W #[u0, u1] v W' := fun e W' ⟨he, hg⟩ => by
    subst he
    exact ⟨_, rfl, _, _, _, [], p0 ++ p1, [], hW', trodAll_mk1 (shut_bool Try.underlying4 _), trodAll_mk2 (Below.trod laidOutValueFrom (by kernel_rfl) (of_decide_eq_true (by kernel_rfl)) h0 hg.below (fun x hx => hlt x (List.mem_append_left _ hx))) (Below.trod laidOutValueFrom (by kernel_rfl) (of_decide_eq_true (by kernel_rfl)) h1 hg.below (fun x hx => hlt x (List.mem_append_right _ hx))), rfl, hg.below.frame _, fun h => by cases h⟩
  obtain ⟨A, m, cap, rfl⟩ := okWide_slice Try.underlying82 (hval 0 82 u0 rfl rfl)
  obtain ⟨B, l, capB, rfl⟩ := okWide_slice Try.underlying63 (hval 1 63 u1 rfl rfl)
  obtain ⟨hmax, xs, rfl, hraw, hs⟩ := open_rdrs h0
  obtain ⟨hmaxB, ns, rfl, hrawB⟩ := open_rawI h1
  have hz : ∀ x ∈ xs, x.nm.size ≤ 9223372036854775807 := fun x hx => by have := (hs x hx).1; unfold maxLen at this; omega
  have hwf : xs.all wfR = true := List.all_eq_true.2 fun x hx => (hs x hx).2
  by_cases hm : ns.length ≤ 1048576
  · obtain ⟨q0, hq0⟩ : ∃ q, szToR xs 1048576 = q := ⟨_, rfl⟩
    obtain ⟨b0, b1, b2⟩ := szToR_bd xs 1048576 q0 (by omega) hq0
    by_cases hp : 0 ≤ q0
    · have hn : xs.length ≤ 1048576 := by have := b2 hp; omega
      obtain ⟨v, C, hS, hI⟩ := bothValueFrom xs ns hn hm hwf
      exact (lawValueFrom A B cap capB xs ns v C q0 W hraw hrawB hn hm hmax hz hq0 hp hS hI).mono done
    · exact (lawValueFrom_big A B cap capB xs ns.length W hraw hm hmax hz (by omega)).mono done
  · exact (lawValueFrom_big2 A B xs.length cap ns.length capB W (by omega) hmaxB).mono done

set_option maxHeartbeats 2000000 in
theorem closedValueFrom : joinedFacts Try.pinned.checked.prog 7 Try.f7 Rows.fnExactValueFromSpec Rows.fnExactValueFromRow = true := by
  unfold joinedFacts
  refine Bool.and_eq_true_iff.2 ⟨?_, by as_aux_lemma => kernel_rfl⟩
  refine Bool.and_eq_true_iff.2 ⟨?_, by as_aux_lemma => kernel_rfl⟩
  refine Bool.and_eq_true_iff.2 ⟨?_, by as_aux_lemma => kernel_rfl⟩
  refine Bool.and_eq_true_iff.2 ⟨?_, by as_aux_lemma => kernel_rfl⟩
  refine Bool.and_eq_true_iff.2 ⟨?_, by rw [fact_make]; rfl⟩
  refine Bool.and_eq_true_iff.2 ⟨?_, by rw [fact_final]; rfl⟩
  refine Bool.and_eq_true_iff.2 ⟨?_, fact_enters⟩
  refine Bool.and_eq_true_iff.2 ⟨?_, by as_aux_lemma => kernel_rfl⟩
  refine Bool.and_eq_true_iff.2 ⟨?_, by as_aux_lemma => kernel_rfl⟩
  refine Bool.and_eq_true_iff.2 ⟨?_, by as_aux_lemma => kernel_rfl⟩
  refine Bool.and_eq_true_iff.2 ⟨?_, by as_aux_lemma => kernel_rfl⟩
  refine Bool.and_eq_true_iff.2 ⟨?_, by as_aux_lemma => kernel_rfl⟩
  refine Bool.and_eq_true_iff.2 ⟨?_, by as_aux_lemma => kernel_rfl⟩
  refine Bool.and_eq_true_iff.2 ⟨?_, by as_aux_lemma => kernel_rfl⟩
  refine Bool.and_eq_true_iff.2 ⟨?_, by as_aux_lemma => kernel_rfl⟩
  refine Bool.and_eq_true_iff.2 ⟨?_, by as_aux_lemma => kernel_rfl⟩
  refine Bool.and_eq_true_iff.2 ⟨?_, by as_aux_lemma => kernel_rfl⟩
  refine Bool.and_eq_true_iff.2 ⟨?_, by as_aux_lemma => kernel_rfl⟩
  refine Bool.and_eq_true_iff.2 ⟨?_, by as_aux_lemma => kernel_rfl⟩
  refine Bool.and_eq_true_iff.2 ⟨?_, by as_aux_lemma => kernel_rfl⟩
  refine Bool.and_eq_true_iff.2 ⟨?_, by as_aux_lemma => kernel_rfl⟩
  refine Bool.and_eq_true_iff.2 ⟨?_, by as_aux_lemma => kernel_rfl⟩
  refine Bool.and_eq_true_iff.2 ⟨?_, by as_aux_lemma => kernel_rfl⟩
  refine Bool.and_eq_true_iff.2 ⟨?_, by as_aux_lemma => kernel_rfl⟩
  refine Bool.and_eq_true_iff.2 ⟨?_, by as_aux_lemma => kernel_rfl⟩
  refine Bool.and_eq_true_iff.2 ⟨?_, by as_aux_lemma => kernel_rfl⟩
  refine Bool.and_eq_true_iff.2 ⟨?_, by as_aux_lemma => kernel_rfl⟩
  refine Bool.and_eq_true_iff.2 ⟨?_, by as_aux_lemma => kernel_rfl⟩
  refine Bool.and_eq_true_iff.2 ⟨?_, by as_aux_lemma => kernel_rfl⟩
  refine Bool.and_eq_true_iff.2 ⟨?_, by as_aux_lemma => kernel_rfl⟩
  as_aux_lemma => kernel_rfl
theorem valueFrom_holds : Rows.FnExactValueFromSaid :=
  OpenClaim.holds_of_wide 7 Try.f7 rfl rfl rfl rfl rfl rfl rfl ⟨rfl, rfl, rfl, rfl, rfl⟩ rfl rfl rfl rfl rfl (by as_aux_lemma => kernel_rfl) Try.func7 closedValueFrom
    (of_decide_eq_true (by as_aux_lemma => kernel_rfl)) (by unfold Func.isWrapper; rw [if_neg (by decide +kernel)]; exact ⟨rfl, rfl⟩)
    (fun os started H enc _ => liftedValueFrom os started H enc)
#print axioms valueFrom_holds
end Go.Proofs.Ytfpcbgfcachlgaa
