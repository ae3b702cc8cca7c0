/- WALKS: the four operations that the package exports, and those of the reference. -/
import Derived.Test.YtnbdafecgccojaaE
import Derived.Test.YtnbdafecgccojaaB
namespace Go.Proofs.Ytnbdafecgccojaa
open Go.RowKit Go.Sort

set_option maxHeartbeats 400000 in
theorem stwo (a b c d : Int) (w : World) :
    Calls Try.prog 90 #[fr a b, fr c d] w fun e w' => e = .returned (.int .i64 (if okB a b && okB c d then 0 else 1)) ∧ Gr w w' := by
  cases h1 : okB a b with
  | false =>
    go_enter Try.func90, Try.ntmps90
    go_wp2_with (go_at_call 79; refine (sok_any _ _ _).mono ?_; rintro e w1 ⟨rfl, hg1⟩; obtain ⟨_, _, _, G1⟩ := alloc2 hg1; have G1 := hid G1; clear hg1)
    go_ret
    exact ⟨by simp, G1.out⟩
  | true =>
    cases h2 : okB c d with
    | false =>
      go_enter Try.func90, Try.ntmps90
      go_wp2_with fail
      refine (sok_any _ _ _).mono ?_
      rintro e w1 ⟨rfl, hg1⟩
      obtain ⟨_, x1, _, G1⟩ := alloc2 hg1
      obtain ⟨_, _⟩ := cells2 x1
      have G1 := hid G1
      clear hg1 x1
      go_wp2_with (go_at_call 79; refine (sok_any _ _ _).mono ?_; rintro e w2 ⟨rfl, hg2⟩; have G2 := hid (G1.out.trans hg2); clear hg2)
      go_ret
      exact ⟨by simp, G2.out⟩
    | true =>
      go_enter Try.func90, Try.ntmps90
      go_wp2_with fail
      refine (sok_any _ _ _).mono ?_
      rintro e w1 ⟨rfl, hg1⟩
      obtain ⟨_, x1, _, G1⟩ := alloc2 hg1
      obtain ⟨_, _⟩ := cells2 x1
      have G1 := hid G1
      clear hg1 x1
      go_wp2_with (go_at_call 79; refine (sok_any _ _ _).mono ?_; rintro e w2 ⟨rfl, hg2⟩; have G2 := hid (G1.out.trans hg2); clear hg2)
      go_ret
      exact ⟨by simp, G2.out⟩
set_option maxHeartbeats 400000 in
theorem sneg (a b : Int) (w : World) (h1 : -1000000000 ≤ a) (h2 : a ≤ 1000000000) :
    Calls Try.prog 197 #[fr a b] w fun e w' => e = .returned (fr (-a) b) ∧ Gr w w' := by
  go_enter Try.func197, Try.ntmps197
  go_wp2
  refine bodyPost_ret (v := fr (-a) b) (by simp [results, Try.results197, go_sem]) rfl ⟨rfl, ?_⟩
  exact (Gr.alloc _ _).trans (Gr.alloc _ _)
end Go.Proofs.Ytnbdafecgccojaa
