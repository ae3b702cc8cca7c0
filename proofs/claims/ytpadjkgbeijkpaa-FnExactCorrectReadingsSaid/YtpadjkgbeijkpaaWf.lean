/- WALKS: a whole number as a fraction, of the program. -/
import Derived.Test.YtpadjkgbeijkpaaC0
namespace Go.Proofs.Ytpadjkgbeijkpaa
open Go.RowKit Go.Sort

set_option maxRecDepth 20000 in
set_option maxHeartbeats 400000 in
theorem iwhole (n : Int) (w : World) (h1 : -1000000000 ≤ n) (h2 : n ≤ 1000000000) :
    Calls Try.prog 147 #[.int .i64 n] w fun e w' => e = .returned (fr n 1) ∧ Gr w w' := by
  have hg : gtB n 1000000000 = false := by unfold gtB; simp; omega
  have hf := hid hg; clear hg
  go_enter Try.func147, Try.ntmps147
  go_wp2_with fail
  refine (fit_ok _ _ _ hf.out (by decide)).mono ?_
  rintro e w1 ⟨rfl, hg1⟩
  obtain ⟨x1_0, hz1, g1⟩ := alloc1 hg1
  obtain ⟨_, _⟩ := cells2 x1_0
  have _ := fz x1_0
  have _ := ltb x1_0
  have X1_0 := hid x1_0; clear x1_0
  have G1 := hid (g1)
  clear hg1 g1
  go_wp2
  refine bodyPost_ret (v := fr n 1) (by simp [results, Try.results147, go_sem, *]) rfl ⟨rfl, ?_⟩
  exact ((G1.out).setCell (by simp <;> omega) _).setCell (by simp <;> omega) _
end Go.Proofs.Ytpadjkgbeijkpaa
