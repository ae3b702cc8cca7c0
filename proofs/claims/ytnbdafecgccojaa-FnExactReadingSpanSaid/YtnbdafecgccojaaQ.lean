/- WALKS: a span is looked at, by the program and by the reference. -/
import Derived.Test.YtnbdafecgccojaaN
namespace Go.Proofs.Ytnbdafecgccojaa
open Go.RowKit Go.Sort

def spB (a b c d : Int) : Bool := okB a b && okB c d && decide (cmpI a b c d ≤ 0)

set_option maxRecDepth 20000 in
set_option maxHeartbeats 400000 in
theorem iSpan_n1 (a b c d : Int) (w : World) (h1 : okB a b = false) :
    Calls Try.prog 255 #[sp a b c d] w fun e w' => e = .returned (.bool false) ∧ Gr w w' := by
  go_enter Try.func255, Try.ntmps255
  go_wp2_with (go_at_call 74; refine (iok_any _ _ _).mono ?_; rintro e w1 ⟨rfl, hg1⟩; obtain ⟨_, _, G1⟩ := alloc1 hg1; have G1 := hid G1; clear hg1)
  go_ret
  exact ⟨rfl, G1.out⟩
set_option maxRecDepth 20000 in
set_option maxHeartbeats 400000 in
theorem iSpan_n2 (a b c d : Int) (w : World) (h1 : okB a b = true) (h2 : okB c d = false) :
    Calls Try.prog 255 #[sp a b c d] w fun e w' => e = .returned (.bool false) ∧ Gr w w' := by
  go_enter Try.func255, Try.ntmps255
  go_wp2_with fail
  refine (iok_any _ _ _).mono ?_
  rintro e w1 ⟨rfl, hg1⟩
  rw [h1]
  obtain ⟨x2, _, G1⟩ := alloc1 hg1
  obtain ⟨_, _, _, _⟩ := cells4 x2
  have _ := fz x2
  have G1 := hid G1
  clear hg1 x2
  go_wp2_with fail
  refine (iok_any _ _ _).mono ?_
  rintro e w2 ⟨rfl, hg2⟩
  rw [h2]
  have G2 := hid (G1.out.trans hg2)
  clear hg2
  go_wp2
  go_ret
  exact ⟨rfl, G2.out⟩
set_option maxRecDepth 20000 in
set_option maxHeartbeats 400000 in
theorem iSpan_yes (a b c d : Int) (w : World) (h1 : okB a b = true) (h2 : okB c d = true) :
    Calls Try.prog 255 #[sp a b c d] w fun e w' => e = .returned (.bool (decide (cmpI a b c d ≤ 0))) ∧ Gr w w' := by
  have K1 := hid h1
  have K2 := hid h2
  go_enter Try.func255, Try.ntmps255
  go_wp2_with fail
  refine (iok_any _ _ _).mono ?_
  rintro e w1 ⟨rfl, hg1⟩
  rw [h1]
  obtain ⟨x2, _, G1⟩ := alloc1 hg1
  have X2 := hid x2
  obtain ⟨_, _, _, _⟩ := cells4 x2
  have G1 := hid G1
  clear hg1 x2
  go_wp2_with fail
  refine (iok_any _ _ _).mono ?_
  rintro e w2 ⟨rfl, hg2⟩
  rw [h2]
  have x3 := hg2.keep X2.out
  obtain ⟨_, _, _, _⟩ := cells4 x3
  have G2 := hid (G1.out.trans hg2)
  clear hg2 x3
  go_wp2_with (go_at_call 186; refine (iord _ _ _ _ _ K1.out K2.out).mono ?_; rintro e w3 ⟨rfl, hg3⟩; have G3 := hid (G2.out.trans hg3); clear hg3)
  go_ret
  exact ⟨rfl, G3.out⟩
theorem iValidSpan (a b c d : Int) (w : World) :
    Calls Try.prog 255 #[sp a b c d] w fun e w' => e = .returned (.bool (spB a b c d)) ∧ Gr w w' := by
  unfold spB
  cases h1 : okB a b with
  | false => exact iSpan_n1 a b c d w h1
  | true =>
    cases h2 : okB c d with
    | false => exact iSpan_n2 a b c d w h1 h2
    | true => exact iSpan_yes a b c d w h1 h2
set_option maxRecDepth 20000 in
set_option maxHeartbeats 400000 in
theorem eqSpan_any (a b c d : Int) (w : World) :
    Calls Try.prog 21 #[sp a b c d, sp a b c d] w fun e w' => e = .returned (.bool true) ∧ Gr w w' := by
  go_enter Try.func21, Try.ntmps21
  go_wp2_with fail
  refine (eqFrac_any _ _ _).mono ?_
  rintro e w1 ⟨rfl, hg1⟩
  obtain ⟨x0, x1, hz, G1⟩ := alloc2 hg1
  obtain ⟨_, _, _, _⟩ := cells4 x0
  obtain ⟨_, _, _, _⟩ := cells4 x1
  have G1 := hid G1
  clear hg1 x0 x1
  go_wp2_with fail
  refine (eqFrac_any _ _ _).mono ?_
  rintro e w2 ⟨rfl, hg2⟩
  have G2 := hid (G1.out.trans hg2)
  clear hg2
  go_wp2
  go_ret
  exact ⟨rfl, G2.out⟩
end Go.Proofs.Ytnbdafecgccojaa
