/- WALKS: the reference's fractions: valid ones, lowest terms, sums, differences, products, quotients. -/
import Derived.Test.YtkeflpcokcfcjaaDoorB0
namespace Go.Proofs.YtkeflpcokcfcjaaDoor
open Go.RowKit Go.Sort

set_option maxHeartbeats 400000 in
/-- spec.l01Ok -/
theorem sok_any (p q : Int) (w : World) :
    Calls Tryd.prog 43 #[fr p q] w fun e w' => e = .returned (.bool (okB p q)) ∧ Gr w w' := by
  by_cases h1 : inB q 1 1000000000 = true
  · obtain ⟨a1, a2⟩ : 1 ≤ q ∧ q ≤ 1000000000 := by simpa [inB] using h1
    by_cases h2 : inB p (-1000000000) 1000000000 = true
    · obtain ⟨b1, b2⟩ : -1000000000 ≤ p ∧ p ≤ 1000000000 := by simpa [inB] using h2
      have hv : ((((p.natAbs : Int).gcd q : Nat) : Int) == 1) = okB p q := by
        rw [gcd_abs1, Bool.eq_iff_iff, okB_iff]
        unfold Ok
        simp
        omega
      have H1 := hid h1; have H2 := hid h2; have HV := hid hv; clear h1 h2 hv
      go_enter Tryd.func43, Tryd.ntmps43
      go_wp2_with fail
      refine wp_reg0 17 (by kernel_rfl) (by kernel_rfl) ?_
      apply Exists.intro
      refine ⟨fun wb hb => ?_, ?_⟩
      · obtain ⟨_, _⟩ := hb.at2 (alloc1 (Gr.refl _)).1
        have h1 := H1.out; have h2 := H2.out
        simp only [headOps, List.contains, List.elem, reduceIte, Bool.false_eq_true]
        repeat (first | go_big_quiet_step (first | (go_at_call 31; exact Calls.of_same (in_any _ _ _ _)) | (go_at_call 71; exact Calls.of_same (abs_any _ _ (by omega) (by omega))) | (go_at_call 70; exact Calls.of_same (gcd_any _ _ _ (by omega) (by omega) (by omega) (by omega)))) | quiet_step (fail))
        exact wpQuiet_nil rfl
      intro w1 hg1
      go_wp2
      go_ret
      exact ⟨ret_bool HV.out, (Gr.alloc _ _).trans hg1⟩
    · have hv : okB p q = false := by
        rw [okB_false]; unfold Ok; simp [inB] at h2; omega
      have h2 : inB p (-1000000000) 1000000000 = false := by simpa using h2
      have H1 := hid h1; have H2 := hid h2; have HV := hid hv; clear h1 h2 hv
      go_enter Tryd.func43, Tryd.ntmps43
      go_wp2_with fail
      refine wp_reg0 17 (by kernel_rfl) (by kernel_rfl) ?_
      apply Exists.intro
      refine ⟨fun wb hb => ?_, ?_⟩
      · obtain ⟨_, _⟩ := hb.at2 (alloc1 (Gr.refl _)).1
        have h1 := H1.out; have h2 := H2.out
        simp only [headOps, List.contains, List.elem, reduceIte, Bool.false_eq_true]
        repeat (first | go_big_quiet_step (first | (go_at_call 31; exact Calls.of_same (in_any _ _ _ _))) | quiet_step (fail))
        exact wpQuiet_nil rfl
      intro w1 hg1
      go_wp2
      go_ret
      exact ⟨ret_bool HV.out.symm, (Gr.alloc _ _).trans hg1⟩
  · have hv : okB p q = false := by
      rw [okB_false]; unfold Ok; simp [inB] at h1; omega
    have h1 : inB q 1 1000000000 = false := by simpa using h1
    have H1 := hid h1; have HV := hid hv; clear h1 hv
    go_enter Tryd.func43, Tryd.ntmps43
    go_wp2_with fail
    refine wp_reg0 17 (by kernel_rfl) (by kernel_rfl) ?_
    apply Exists.intro
    refine ⟨fun wb hb => ?_, ?_⟩
    · obtain ⟨_, _⟩ := hb.at2 (alloc1 (Gr.refl _)).1
      have h1 := H1.out
      simp only [headOps, List.contains, List.elem, reduceIte, Bool.false_eq_true]
      repeat (first | go_big_quiet_step (first | (go_at_call 31; exact Calls.of_same (in_any _ _ _ _))) | quiet_step (fail))
      exact wpQuiet_nil rfl
    intro w1 hg1
    go_wp2
    go_ret
    exact ⟨ret_bool HV.out.symm, (Gr.alloc _ _).trans hg1⟩

end Go.Proofs.YtkeflpcokcfcjaaDoor
