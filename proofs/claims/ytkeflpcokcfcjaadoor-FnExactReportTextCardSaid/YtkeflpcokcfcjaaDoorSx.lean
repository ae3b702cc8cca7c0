/- WALKS: the reference's validity of a span at an address. -/
import Derived.Test.YtkeflpcokcfcjaaDoorSn
import Derived.Test.YtkeflpcokcfcjaaDoorN
namespace Go.Proofs.YtkeflpcokcfcjaaDoor
open Go.RowKit Go.Sort

set_option maxRecDepth 20000 in
set_option maxHeartbeats 400000 in
theorem sSpanX_n1 (a b c d : Int) (w : World) (g k : Nat) (x : CelN w ⟨g, k, none⟩ ⟨a, b, c, d⟩) (h1 : okB a b = false) :
    Calls Tryd.prog 65 #[.pointer (some ⟨g, k, none⟩)] w fun e w' => e = .returned (.bool false) ∧ Gr w w' := by
  have X := hid x; clear x
  have H1 := hid h1; clear h1
  go_enter Tryd.func65, Tryd.ntmps65
  go_wp2_with fail
  refine wp_reg0 24 (by kernel_rfl) (by kernel_rfl) ?_
  apply Exists.intro
  refine ⟨fun wb hb => ?_, ?_⟩
  · have _ := hb.atA X.out.h0; have _ := hb.atA X.out.h1; have _ := hb.atA X.out.h2; have _ := hb.atA X.out.h3
    have h1 := H1.out
    simp only [headOps, List.contains, List.elem, reduceIte, Bool.false_eq_true]
    repeat (first | go_big_quiet_step (first | (go_at_call 43; exact Calls.of_gr (sok_any _ _ _))) | quiet_step (fail))
    exact wpQuiet_nil rfl
  intro w1 hg1
  have G1 := hid hg1
  clear hg1
  go_wp2
  go_ret
  exact ⟨rfl, G1.out⟩
set_option maxRecDepth 20000 in
set_option maxHeartbeats 400000 in
theorem sSpanX_n2 (a b c d : Int) (w : World) (g k : Nat) (x : CelN w ⟨g, k, none⟩ ⟨a, b, c, d⟩) (h1 : okB a b = true) (h2 : okB c d = false) :
    Calls Tryd.prog 65 #[.pointer (some ⟨g, k, none⟩)] w fun e w' => e = .returned (.bool false) ∧ Gr w w' := by
  have X := hid x; clear x
  have H1 := hid h1; clear h1
  have H2 := hid h2; clear h2
  go_enter Tryd.func65, Tryd.ntmps65
  go_wp2_with fail
  refine wp_reg0 24 (by kernel_rfl) (by kernel_rfl) ?_
  apply Exists.intro
  refine ⟨fun wb hb => ?_, ?_⟩
  · have _ := hb.atA X.out.h0; have _ := hb.atA X.out.h1; have _ := hb.atA X.out.h2; have _ := hb.atA X.out.h3
    have h1 := H1.out; have h2 := H2.out
    simp only [headOps, List.contains, List.elem, reduceIte, Bool.false_eq_true]
    repeat (first | go_big_quiet_step (first | (go_at_call 43; exact Calls.of_gr (sok_any _ _ _))) | quiet_step (fail))
    exact wpQuiet_nil rfl
  intro w1 hg1
  have G1 := hid hg1
  clear hg1
  go_wp2
  go_ret
  exact ⟨rfl, G1.out⟩
set_option maxRecDepth 20000 in
set_option maxHeartbeats 400000 in
theorem sSpanX_yes (a b c d : Int) (w : World) (g k : Nat) (x : CelN w ⟨g, k, none⟩ ⟨a, b, c, d⟩) (h1 : okB a b = true) (h2 : okB c d = true) :
    Calls Tryd.prog 65 #[.pointer (some ⟨g, k, none⟩)] w fun e w' => e = .returned (.bool (decide (cmpI a b c d ≤ 0))) ∧ Gr w w' := by
  obtain ⟨b1, b2, b3, b4⟩ := okB_bd h1
  obtain ⟨d1, d2, d3, d4⟩ := okB_bd h2
  have Q0 := hid (mul_bd (x := a) (y := d) b3 b4 (by omega) d2)
  have Q2 := hid (mul_bd (x := c) (y := b) d3 d4 (by omega) b2)
  have X := hid x; clear x
  have H1 := hid h1; clear h1
  have H2 := hid h2; clear h2
  clear b1 b2 b3 b4 d1 d2 d3 d4
  go_enter Tryd.func65, Tryd.ntmps65
  go_wp2_with fail
  refine wp_reg0 24 (by kernel_rfl) (by kernel_rfl) ?_
  apply Exists.intro
  refine ⟨fun wb hb => ?_, ?_⟩
  · have _ := hb.atA X.out.h0; have _ := hb.atA X.out.h1; have _ := hb.atA X.out.h2; have _ := hb.atA X.out.h3
    have h1 := H1.out; have h2 := H2.out
    simp only [headOps, List.contains, List.elem, reduceIte, Bool.false_eq_true]
    repeat (first | go_big_quiet_step (first | (go_at_call 43; exact Calls.of_gr (sok_any _ _ _)) | (go_at_call 89; exact Calls.of_gr (scmp _ _ _ _ _ Q0.out.1 Q0.out.2 Q2.out.1 Q2.out.2))) | quiet_step (fail))
    exact wpQuiet_nil rfl
  intro w1 hg1
  have G1 := hid hg1
  clear hg1
  go_wp2
  go_ret
  exact ⟨rfl, G1.out⟩
/-- spec.l01Span -/
theorem sSpanX (a b c d : Int) (w : World) (g k : Nat) (x : CelN w ⟨g, k, none⟩ ⟨a, b, c, d⟩) :
    Calls Tryd.prog 65 #[.pointer (some ⟨g, k, none⟩)] w fun e w' => e = .returned (.bool (spB a b c d)) ∧ Gr w w' := by
  unfold spB
  cases h1 : okB a b with
  | false => exact sSpanX_n1 a b c d w g k x h1
  | true =>
    cases h2 : okB c d with
    | false => exact sSpanX_n2 a b c d w g k x h1 h2
    | true => exact sSpanX_yes a b c d w g k x h1 h2

theorem sSpanX_is (a b c d : Int) (r : Bool) (w : World) (g k : Nat) (x : Hid (CelN w ⟨g, k, none⟩ ⟨a, b, c, d⟩)) (h : spB a b c d = r) :
    Calls Tryd.prog 65 #[.pointer (some ⟨g, k, none⟩)] w fun e w' => e = .returned (.bool r) ∧ Gr w w' := h ▸ sSpanX a b c d w g k x.out
end Go.Proofs.YtkeflpcokcfcjaaDoor
