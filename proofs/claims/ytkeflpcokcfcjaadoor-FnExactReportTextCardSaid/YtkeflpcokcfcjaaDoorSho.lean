/- Shots as values; the laws' conversion of a shot. -/
import Derived.Test.YtkeflpcokcfcjaaDoorB0
import Derived.Test.YtkeflpcokcfcjaaDoorB1
namespace Go.Proofs.YtkeflpcokcfcjaaDoor
open Go.RowKit Go.Sort

abbrev sho (t a b c d : Int) : Value := .agg #[.int .i64 t, .int .i64 a, .int .i64 b, .int .i64 c, .int .i64 d]
set_option maxRecDepth 20000 in
set_option maxHeartbeats 400000 in
theorem toSho_any (t a b c d : Int) (w : World) : Calls Tryd.prog 37 #[sho t a b c d] w fun e w' => e = .returned (sho t a b c d) ∧ Gr w w' := by
  go_enter Tryd.func37, Tryd.ntmps37
  go_wp2_with fail
  refine (toFrac_any _ _ _).mono ?_
  rintro e w1 ⟨rfl, hg1⟩
  obtain ⟨x1_0, x1_1, x1_2, hz1, g1⟩ := alloc3 hg1
  obtain ⟨_, _, _, _, _⟩ := cells5 x1_0
  have _ := fz x1_0
  have _ := ltb x1_0
  obtain ⟨_, _, _, _, _⟩ := cells5 x1_1
  have _ := fz x1_1
  have _ := ltb x1_1
  obtain ⟨_, _, _, _, _⟩ := cells5 x1_2
  have _ := fz x1_2
  have _ := ltb x1_2
  have X1_0 := hid x1_0; clear x1_0
  have X1_1 := hid x1_1; clear x1_1
  have X1_2 := hid x1_2; clear x1_2
  have G1 := hid (g1)
  clear hg1 g1
  go_wp2_with fail
  refine (toFrac_any _ _ _).mono ?_
  rintro e w2 ⟨rfl, hg2⟩
  obtain ⟨_, _⟩ := hg2.same
  have hzs2 := hg2.size
  simp at hzs2
  have _ : w.heap.size < w2.heap.size := by omega
  have _ : w.heap.size + 1 < w2.heap.size := by omega
  have _ : w.heap.size + 1 + 1 < w2.heap.size := by omega
  have G2 := hid ((((G1.out).setCell (by simp <;> omega) _).setCell (by simp <;> omega) _).trans hg2); clear hg2
  go_wp2
  refine bodyPost_ret (v := sho t a b c d) (by simp [results, Tryd.results37, go_sem, *]) rfl ⟨rfl, ?_⟩
  exact (((((((G2.out).setCell (by simp <;> omega) _).setCell (by simp <;> omega) _).setCell (by simp <;> omega) _).setCell (by simp <;> omega) _).setCell (by simp <;> omega) _).setCell (by simp <;> omega) _).setCell (by simp <;> omega) _
end Go.Proofs.YtkeflpcokcfcjaaDoor
