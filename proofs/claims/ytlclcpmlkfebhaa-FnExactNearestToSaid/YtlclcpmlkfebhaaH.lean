/- WALKS: the four operations that the package exports, and those of the reference. -/
import Derived.Test.YtlclcpmlkfebhaaG
import Derived.Test.YtlclcpmlkfebhaaB
namespace Go.Proofs.Ytlclcpmlkfebhaa
open Go.RowKit Go.Sort

set_option maxHeartbeats 400000 in
theorem stwo (a b c d : Int) (w : World) :
    Calls Try.prog 33 #[fr a b, fr c d] w fun e w' => e = .returned (.int .i64 (if okB a b && okB c d then 0 else 1)) ∧ Gr w w' := by
  cases h1 : okB a b with
  | false =>
    go_enter Try.func33, Try.ntmps33
    go_wp2_with (go_at_call 60; refine (sok_any _ _ _).mono ?_; rintro e w1 ⟨rfl, hg1⟩; obtain ⟨_, _, _, G1⟩ := alloc2 hg1; have G1 := hid G1; clear hg1)
    go_ret
    exact ⟨by simp, G1.out⟩
  | true =>
    cases h2 : okB c d with
    | false =>
      go_enter Try.func33, Try.ntmps33
      go_wp2_with fail
      refine (sok_any _ _ _).mono ?_
      rintro e w1 ⟨rfl, hg1⟩
      obtain ⟨_, x1, _, G1⟩ := alloc2 hg1
      obtain ⟨_, _⟩ := cells2 x1
      have G1 := hid G1
      clear hg1 x1
      go_wp2_with (go_at_call 60; refine (sok_any _ _ _).mono ?_; rintro e w2 ⟨rfl, hg2⟩; have G2 := hid (G1.out.trans hg2); clear hg2)
      go_ret
      exact ⟨by simp, G2.out⟩
    | true =>
      go_enter Try.func33, Try.ntmps33
      go_wp2_with fail
      refine (sok_any _ _ _).mono ?_
      rintro e w1 ⟨rfl, hg1⟩
      obtain ⟨_, x1, _, G1⟩ := alloc2 hg1
      obtain ⟨_, _⟩ := cells2 x1
      have G1 := hid G1
      clear hg1 x1
      go_wp2_with (go_at_call 60; refine (sok_any _ _ _).mono ?_; rintro e w2 ⟨rfl, hg2⟩; have G2 := hid (G1.out.trans hg2); clear hg2)
      go_ret
      exact ⟨by simp, G2.out⟩
end Go.Proofs.Ytlclcpmlkfebhaa
