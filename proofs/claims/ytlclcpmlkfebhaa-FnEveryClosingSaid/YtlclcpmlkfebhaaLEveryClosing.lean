/- The law FnEveryClosing of the laws package returns true for every slice of integers: behind sharing out the closing error the sectors are together the whole circle. It reads behind the call as before it. No condition. -/
import Derived.Test.YtlclcpmlkfebhaaRows
import Derived.Test.YtlclcpmlkfebhaaZa
import Derived.Test.YtlclcpmlkfebhaaRd
import Derived.Test.YtlclcpmlkfebhaaRi
import Derived.Test.YtlclcpmlkfebhaaFactsM
import Derived.ProofKit
import Derived.Carry
import Derived.Lib.SmallJoins
namespace Go.Proofs.Ytlclcpmlkfebhaa
open Go.RowKit Go.Sort

set_option maxRecDepth 20000 in
set_option maxHeartbeats 400000 in
theorem lawEveryClosing_big (A : Option Addr) (n cap : Nat) (w : World) (h : 65536 < n) (h2 : n ≤ 9223372036854775807) :
    Calls Try.prog 3 #[.slice A n cap] w fun e w' => e = .returned (.bool true) ∧ Gr w w' := by
  go_enter Try.func3, Try.ntmps3
  go_wp2
  go_ret
  exact ⟨rfl, Gr.refl _⟩
set_option maxRecDepth 20000 in
set_option maxHeartbeats 1000000 in
theorem lawEveryClosing_no (A : Option Addr) (cap : Nat) (xs : List Int) (w : World) (X : Hid (RdI w A xs)) (hn : xs.length ≤ 65536) (hb : secB xs = false) :
    Calls Try.prog 3 #[.slice A xs.length cap] w fun e w' => e = .returned (.bool true) ∧ Gr w w' := by
  have HB := hid hb; clear hb
  go_enter Try.func3, Try.ntmps3
  go_wp2_with fail
  refine (iShare_no A cap xs _ X (by omega) HB.out).mono ?_
  rintro e w1 ⟨A1, c1, rfl, _, hg1⟩
  have G1 := hid hg1; clear hg1
  go_wp2_with fail
  refine (sShare_no A cap xs _ (hid (X.out.keep G1.out)) (by omega) HB.out).mono ?_
  rintro e w2 ⟨A2, c2, rfl, _, hg2⟩
  have G2 := hid (G1.out.trans hg2); clear hg2
  go_wp2_with fail
  go_ret
  exact ⟨rfl, G2.out⟩
set_option maxRecDepth 20000 in
set_option maxHeartbeats 1000000 in
theorem lawEveryClosing_yes (A : Option Addr) (cap : Nat) (xs : List Int) (w : World) (X : Hid (RdI w A xs)) (hb : secB xs = true) :
    Calls Try.prog 3 #[.slice A xs.length cap] w fun e w' => e = .returned (.bool true) ∧ Gr w w' := by
  obtain ⟨h1, h2, h3⟩ := sec_parts hb
  have HB := hid hb; have H3 := hid h3; have HS := hid (pSum_all h1); clear hb h3
  go_enter Try.func3, Try.ntmps3
  go_wp2_with fail
  refine (iShare_yes A cap xs _ X HB.out).mono ?_
  rintro e w1 ⟨A1, c1, rfl, o1, hg1⟩
  have O1 := hid (RdI.of_own o1); have G1 := hid hg1; clear o1 hg1
  rw [shr_len]
  go_wp2_with fail
  refine (sShare_yes A cap xs _ (hid (X.out.keep G1.out)) HB.out).mono ?_
  rintro e w2 ⟨A2, c2, rfl, o2, hg2⟩
  have R1 := hid (O1.out.keep hg2); have R2 := hid (RdI.of_own o2); have G2 := hid (G1.out.trans hg2); clear o2 hg2 O1
  rw [shr_len]
  go_wp2_with fail
  go_loopw [7, 8] (fun s u wr => ∃ (k : Nat), u = .int .i64 (k : Int) ∧ s = .int .i64 (pSum xs k) ∧ k ≤ xs.length ∧ Gr w2 wr) (fun _ u _ => xs.length - (intOf u).toNat)
  case atStart => exact ⟨0, rfl, rfl, by omega, Gr.refl _⟩
  case round =>
    obtain ⟨k, rfl, rfl, hk, hg⟩ := hrel
    have HG := hid hg
    by_cases hlt : k < xs.length
    · obtain ⟨ad1, rfl, e1⟩ := (R1.out.keep hg) k _ (shr_get xs hlt)
      obtain ⟨ad2, rfl, e2⟩ := (R2.out.keep hg) k _ (shr_get xs hlt)
      obtain ⟨_, _⟩ := pSum_bd h2 H3.out (show k ≤ xs.length by omega)
      obtain ⟨_, _⟩ := pSum_bd h2 H3.out (show k + 1 ≤ xs.length by omega)
      have hs : pSum xs (k + 1) = pSum xs k + shAt xs (clo xs) k := rfl
      clear hg
      go_wp2_with fail
      go_quiet (fail)
      go_wp2_with fail
      exact ⟨⟨k + 1, by simp, by rw [hs], by omega, HG.out.trans (Gr.drewN _ _)⟩, by simp [intOf]; omega⟩
    · have hke : k = xs.length := by omega
      subst hke
      clear hg
      rw [HS.out]
      go_wp2_with fail
      go_ret
      exact ⟨rfl, G2.out.trans HG.out⟩

open Go.ChangeShapes Go.WideShapes Go.ChangeAt Go.Joins
theorem laidOutEveryClosing : laidOutB Try.prog = true := by as_aux_lemma => kernel_rfl
set_option maxRecDepth 100000 in
theorem liftedEveryClosing (os : Os) (started : os.Started) (H : Type) (enc : TypeId × Value → H) :
    ReturnsInHanded {} Try.checked os 3 .any (Rows.fnEveryClosingSpec.pre6 enc Try.prog Try.f3 Rows.fnEveryClosingRow.domain false) (Rows.fnEveryClosingSpec.post enc Try.prog Try.f3 false true false false) := by
  refine returnsInHanded_of_change (C := Try.checked) ownNone started (by kernel_rfl) Try.func3
    (ChangeSpec.witness6 (enc := enc) (C := Try.checked) false ⟨#[], #[.slice none 0 0], []⟩ 8 (by kernel_rfl) (by kernel_rfl) (by kernel_rfl) (by kernel_rfl)) ?_
  intro W base args ds gs before hval0 hW _ _
  have hval : ∀ (j : Nat) t v, Try.f3.params[j]? = some t → args[j]? = some v → Value.okWide Try.prog W .any base t v := hval0
  have hW' := hW
  obtain ⟨p, q, hA0, hV, rfl, _, _⟩ := hW
  have hA : DataW.TrodAll enc Try.prog W 0 (fun _ => true) true Try.f3.params.toList args.toList ds p := hA0
  rw [Try.params3] at hA hval
  obtain ⟨v0, d0, rfl, rfl, h0⟩ := trodAll_one hA
  obtain ⟨rfl, rfl⟩ := trodVars_none hV
  clear hA0 hval0
  simp only [List.append_nil] at hW'
  have hlt : ∀ x ∈ p, x.block < W.heap.size := fun x hx => by simpa using hW'.lt x hx
  have done : ∀ (e : Ending) (W' : World), e = .returned (.bool true) ∧ Gr W W' → ∃ v, e = .returned v ∧ Rows.fnEveryClosingSpec.post enc Try.prog Try.f3 false true false false W #[v0] v W' := fun e W' ⟨he, hg⟩ => by
    subst he
    exact ⟨_, rfl, _, _, _, [], p, [], hW', trodAll_mk1 (shut_bool Try.underlying4 _), trodAll_mk1 (Below.trod laidOutEveryClosing (by kernel_rfl) (of_decide_eq_true (by kernel_rfl)) h0 hg.below hlt), rfl, hg.below.frame _, fun h => by cases h⟩
  obtain ⟨A, n, cap, rfl⟩ := okWide_slice Try.underlying22 (hval 0 22 v0 rfl rfl)
  obtain ⟨hmax, xs, rfl, hraw⟩ := open_rawI h0
  obtain ⟨A', cap', he, hrd⟩ := RdI.of_raw hraw
  injection he with e1 _ e3
  subst e1 e3
  by_cases hn : xs.length ≤ 65536
  · cases hb : secB xs with
    | true => exact (lawEveryClosing_yes A cap xs W (hid hrd) hb).mono done
    | false => exact (lawEveryClosing_no A cap xs W (hid hrd) hn hb).mono done
  · exact (lawEveryClosing_big A xs.length cap W (by omega) hmax).mono done

set_option maxHeartbeats 2000000 in
theorem closedEveryClosing : joinedFacts Try.pinned.checked.prog 3 Try.f3 Rows.fnEveryClosingSpec Rows.fnEveryClosingRow = true := by
  unfold joinedFacts
  refine Bool.and_eq_true_iff.2 ⟨?_, by as_aux_lemma => kernel_rfl⟩
  refine Bool.and_eq_true_iff.2 ⟨?_, by as_aux_lemma => kernel_rfl⟩
  refine Bool.and_eq_true_iff.2 ⟨?_, by as_aux_lemma => kernel_rfl⟩
  refine Bool.and_eq_true_iff.2 ⟨?_, by as_aux_lemma => kernel_rfl⟩
  refine Bool.and_eq_true_iff.2 ⟨?_, by rw [fact_make]; rfl⟩
  refine Bool.and_eq_true_iff.2 ⟨?_, by rw [fact_final]; rfl⟩
  refine Bool.and_eq_true_iff.2 ⟨?_, fact_enters⟩
  refine Bool.and_eq_true_iff.2 ⟨?_, by as_aux_lemma => kernel_rfl⟩
  refine Bool.and_eq_true_iff.2 ⟨?_, by as_aux_lemma => kernel_rfl⟩
  refine Bool.and_eq_true_iff.2 ⟨?_, by as_aux_lemma => kernel_rfl⟩
  refine Bool.and_eq_true_iff.2 ⟨?_, by as_aux_lemma => kernel_rfl⟩
  refine Bool.and_eq_true_iff.2 ⟨?_, by as_aux_lemma => kernel_rfl⟩
  refine Bool.and_eq_true_iff.2 ⟨?_, by as_aux_lemma => kernel_rfl⟩
  refine Bool.and_eq_true_iff.2 ⟨?_, by as_aux_lemma => kernel_rfl⟩
  refine Bool.and_eq_true_iff.2 ⟨?_, by as_aux_lemma => kernel_rfl⟩
  refine Bool.and_eq_true_iff.2 ⟨?_, by as_aux_lemma => kernel_rfl⟩
  refine Bool.and_eq_true_iff.2 ⟨?_, by as_aux_lemma => kernel_rfl⟩
  refine Bool.and_eq_true_iff.2 ⟨?_, by as_aux_lemma => kernel_rfl⟩
  refine Bool.and_eq_true_iff.2 ⟨?_, by as_aux_lemma => kernel_rfl⟩
  refine Bool.and_eq_true_iff.2 ⟨?_, by as_aux_lemma => kernel_rfl⟩
  refine Bool.and_eq_true_iff.2 ⟨?_, by as_aux_lemma => kernel_rfl⟩
  refine Bool.and_eq_true_iff.2 ⟨?_, by as_aux_lemma => kernel_rfl⟩
  refine Bool.and_eq_true_iff.2 ⟨?_, by as_aux_lemma => kernel_rfl⟩
  refine Bool.and_eq_true_iff.2 ⟨?_, by as_aux_lemma => kernel_rfl⟩
  refine Bool.and_eq_true_iff.2 ⟨?_, by as_aux_lemma => kernel_rfl⟩
  refine Bool.and_eq_true_iff.2 ⟨?_, by as_aux_lemma => kernel_rfl⟩
  refine Bool.and_eq_true_iff.2 ⟨?_, by as_aux_lemma => kernel_rfl⟩
  refine Bool.and_eq_true_iff.2 ⟨?_, by as_aux_lemma => kernel_rfl⟩
  refine Bool.and_eq_true_iff.2 ⟨?_, by as_aux_lemma => kernel_rfl⟩
  refine Bool.and_eq_true_iff.2 ⟨?_, by as_aux_lemma => kernel_rfl⟩
  as_aux_lemma => kernel_rfl
theorem everyClosing_holds : Rows.FnEveryClosingSaid :=
  OpenClaim.holds_of_wide 3 Try.f3 rfl rfl rfl rfl rfl rfl rfl ⟨rfl, rfl, rfl, rfl, rfl⟩ rfl rfl rfl rfl rfl (by as_aux_lemma => kernel_rfl) Try.func3 closedEveryClosing
    (of_decide_eq_true (by as_aux_lemma => kernel_rfl)) (by unfold Func.isWrapper; rw [if_neg (by decide +kernel)]; exact ⟨rfl, rfl⟩)
    (fun os started H enc _ => liftedEveryClosing os started H enc)
#print axioms everyClosing_holds
end Go.Proofs.Ytlclcpmlkfebhaa
