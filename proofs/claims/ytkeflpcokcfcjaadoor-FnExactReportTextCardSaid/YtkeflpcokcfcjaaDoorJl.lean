/- REPORTS: the laws' conversion; a report opened. -/
import Derived.Test.YtkeflpcokcfcjaaDoorJs
import Derived.Test.YtkeflpcokcfcjaaDoorSho
import Derived.Test.YtkeflpcokcfcjaaDoorRd
import Derived.Carry
namespace Go.Proofs.YtkeflpcokcfcjaaDoor
open Go.RowKit Go.Sort

set_option maxRecDepth 20000 in
set_option maxHeartbeats 2000000 in
theorem toRp_any (x : Rpv) (w : World) : Calls Tryd.prog 14 #[vRp x] w fun e w' => e = .returned (vRp x) ∧ Gr w w' := by
  go_enter Tryd.func14, Tryd.ntmps14
  go_wp2_with fail
  refine (toSho_any _ _ _ _ _ _).mono ?_
  rintro e w1 ⟨rfl, hg1⟩
  obtain ⟨x1_0, x1_1, x1_2, hz1, g1⟩ := alloc3 hg1
  obtain ⟨_, _, _, _, _, _, _, _, _, _, _, _, _, _, _⟩ := cells15 x1_0
  have _ := fz x1_0
  have _ := ltb x1_0
  obtain ⟨_, _, _, _, _, _, _, _, _, _, _, _, _, _, _⟩ := cells15 x1_1
  have _ := fz x1_1
  have _ := ltb x1_1
  obtain ⟨_, _, _, _, _, _, _, _, _, _, _, _, _, _, _⟩ := cells15 x1_2
  have _ := fz x1_2
  have _ := ltb x1_2
  have X1_0 := hid x1_0; clear x1_0
  have X1_1 := hid x1_1; clear x1_1
  have X1_2 := hid x1_2; clear x1_2
  have G1 := hid (g1)
  clear hg1 g1
  go_wp2_with fail
  refine (toFrac_any _ _ _).mono ?_
  rintro e w2 ⟨rfl, hg2⟩
  obtain ⟨_, _⟩ := hg2.same
  have hzs2 := hg2.size
  simp at hzs2
  have _ : w.heap.size < w2.heap.size := by omega
  have _ : w.heap.size + 1 < w2.heap.size := by omega
  have _ : w.heap.size + 1 + 1 < w2.heap.size := by omega
  have G2 := hid (((((((G1.out).setCell (by simp <;> omega) _).setCell (by simp <;> omega) _).setCell (by simp <;> omega) _).setCell (by simp <;> omega) _).setCell (by simp <;> omega) _).trans hg2); clear hg2
  go_wp2_with fail
  refine (toFrac_any _ _ _).mono ?_
  rintro e w3 ⟨rfl, hg3⟩
  obtain ⟨_, _⟩ := hg3.same
  have hzs3 := hg3.size
  simp at hzs3
  have _ : w.heap.size < w3.heap.size := by omega
  have _ : w.heap.size + 1 < w3.heap.size := by omega
  have _ : w.heap.size + 1 + 1 < w3.heap.size := by omega
  have G3 := hid ((((G2.out).setCell (by simp <;> omega) _).setCell (by simp <;> omega) _).trans hg3); clear hg3
  go_wp2_with fail
  refine (toFrac_any _ _ _).mono ?_
  rintro e w4 ⟨rfl, hg4⟩
  obtain ⟨_, _⟩ := hg4.same
  have hzs4 := hg4.size
  simp at hzs4
  have _ : w.heap.size < w4.heap.size := by omega
  have _ : w.heap.size + 1 < w4.heap.size := by omega
  have _ : w.heap.size + 1 + 1 < w4.heap.size := by omega
  have G4 := hid ((((G3.out).setCell (by simp <;> omega) _).setCell (by simp <;> omega) _).trans hg4); clear hg4
  go_wp2_with fail
  refine (toSpan_any _ _ _ _ _).mono ?_
  rintro e w5 ⟨rfl, hg5⟩
  obtain ⟨_, _⟩ := hg5.same
  have hzs5 := hg5.size
  simp at hzs5
  have _ : w.heap.size < w5.heap.size := by omega
  have _ : w.heap.size + 1 < w5.heap.size := by omega
  have _ : w.heap.size + 1 + 1 < w5.heap.size := by omega
  have G5 := hid ((((G4.out).setCell (by simp <;> omega) _).setCell (by simp <;> omega) _).trans hg5); clear hg5
  go_wp2
  refine bodyPost_ret (v := vRp x) (by simp [results, Tryd.results14, go_sem, *]) rfl ⟨rfl, ?_⟩
  exact (((((((((((((((((((G5.out).setCell (by simp <;> omega) _).setCell (by simp <;> omega) _).setCell (by simp <;> omega) _).setCell (by simp <;> omega) _).setCell (by simp <;> omega) _).setCell (by simp <;> omega) _).setCell (by simp <;> omega) _).setCell (by simp <;> omega) _).setCell (by simp <;> omega) _).setCell (by simp <;> omega) _).setCell (by simp <;> omega) _).setCell (by simp <;> omega) _).setCell (by simp <;> omega) _).setCell (by simp <;> omega) _).setCell (by simp <;> omega) _).setCell (by simp <;> omega) _).setCell (by simp <;> omega) _).setCell (by simp <;> omega) _).setCell (by simp <;> omega) _
theorem list15 {α : Type} {cs : List α} (h : cs.length = 15) : ∃ c0 c1 c2 c3 c4 c5 c6 c7 c8 c9 c10 c11 c12 c13 c14, cs = [c0, c1, c2, c3, c4, c5, c6, c7, c8, c9, c10, c11, c12, c13, c14] := by
  match cs, h with
  | [c0, c1, c2, c3, c4, c5, c6, c7, c8, c9, c10, c11, c12, c13, c14], _ => exact ⟨c0, c1, c2, c3, c4, c5, c6, c7, c8, c9, c10, c11, c12, c13, c14, rfl⟩
section
open Go.ChangeShapes Go.WideShapes Go.ChangeAt Go.Joins
variable {H : Type} {enc : TypeId × Value → H} {W : World} {base : Nat} {spare : Nat → Bool} {held : Bool}
theorem cellsShoT : Tryd.prog.cellsOf 40 = 5 := by kernel_rfl
theorem cellsRp : Tryd.prog.cellsOf 44 = 15 := by kernel_rfl
theorem trod_shoT {n : Nat} {cs : List Value} {x : DataW H × List MemPlace} (h : DataW.trod enc Tryd.prog W base spare held n 40 cs = some x) :
    ∃ t a b c d : Int, cs = [.int .i64 t, .int .i64 a, .int .i64 b, .int .i64 c, .int .i64 d] := by
  obtain ⟨ys, m', _, hx, hl, hyl, hg⟩ := DataW.trod_struct Tryd.underlying40 h
  rw [cellsShoT] at hl
  obtain ⟨c0, c1, c2, c3, c4, rfl⟩ := list5 hl
  match ys, hyl with
  | [y0, y1, y2], _ =>
    have g0 : DataW.trod enc Tryd.prog W base spare held m' 2 (List.take (Tryd.prog.cellsOf 2) (List.drop 0 [c0, c1, c2, c3, c4])) = some y0 := hg 0 _ rfl
    have g1 : DataW.trod enc Tryd.prog W base spare held m' 24 (List.take (Tryd.prog.cellsOf 24) (List.drop 1 [c0, c1, c2, c3, c4])) = some y1 := hg 1 _ rfl
    have g2 : DataW.trod enc Tryd.prog W base spare held m' 24 (List.take (Tryd.prog.cellsOf 24) (List.drop 3 [c0, c1, c2, c3, c4])) = some y2 := hg 2 _ rfl
    simp only [List.drop, List.take, cellsInt, cellsFrac] at g0 g1 g2
    obtain ⟨t, e0, _, _⟩ := DataW.trod_int Tryd.underlying2 g0
    obtain ⟨a, b, e1, _, _, _⟩ := trod_frac g1
    obtain ⟨c, d, e2, _, _, _⟩ := trod_frac g2
    simp at e0 e1 e2
    subst e0
    obtain ⟨rfl, rfl⟩ := e1
    obtain ⟨rfl, rfl⟩ := e2
    exact ⟨t, a, b, c, d, rfl⟩
set_option maxRecDepth 100000 in
theorem open_report {r : Reach} {b0 : Nat} {v : Value} {d : DataW H} {ps : List MemPlace} (hv : Value.okWide Tryd.prog W r b0 44 v) (h : DataW.Trod enc Tryd.prog W base spare held 44 v d ps) :
    ∃ x : Rpv, v = vRp x := by
  obtain ⟨cs, rfl, hsz⟩ := okWide_struct Tryd.underlying44 hv
  obtain ⟨fuel, hf⟩ := h
  obtain ⟨ys, m', _, hx, hl, hyl, hg⟩ := DataW.trod_struct Tryd.underlying44 hf
  rw [cellsRp] at hl
  obtain ⟨c0, c1, c2, c3, c4, c5, c6, c7, c8, c9, c10, c11, c12, c13, c14, hc⟩ := list15 hl
  match ys, hyl with
  | [y0, y1, y2, y3, y4], _ =>
    have g0 : DataW.trod enc Tryd.prog W base spare held m' 40 (List.take (Tryd.prog.cellsOf 40) (List.drop 0 (Value.agg cs).cells.toList)) = some y0 := hg 0 _ rfl
    have g1 : DataW.trod enc Tryd.prog W base spare held m' 24 (List.take (Tryd.prog.cellsOf 24) (List.drop 5 (Value.agg cs).cells.toList)) = some y1 := hg 1 _ rfl
    have g2 : DataW.trod enc Tryd.prog W base spare held m' 24 (List.take (Tryd.prog.cellsOf 24) (List.drop 7 (Value.agg cs).cells.toList)) = some y2 := hg 2 _ rfl
    have g3 : DataW.trod enc Tryd.prog W base spare held m' 24 (List.take (Tryd.prog.cellsOf 24) (List.drop 9 (Value.agg cs).cells.toList)) = some y3 := hg 3 _ rfl
    have g4 : DataW.trod enc Tryd.prog W base spare held m' 42 (List.take (Tryd.prog.cellsOf 42) (List.drop 11 (Value.agg cs).cells.toList)) = some y4 := hg 4 _ rfl
    rw [hc] at g0 g1 g2 g3 g4
    simp only [List.drop, List.take, cellsShoT, cellsFrac, cellsSpan] at g0 g1 g2 g3 g4
    obtain ⟨t, a, b, c, d, e0⟩ := trod_shoT g0
    obtain ⟨e, f, e1, _, _, _⟩ := trod_frac g1
    obtain ⟨g, h, e2, _, _, _⟩ := trod_frac g2
    obtain ⟨i, k, e3, _, _, _⟩ := trod_frac g3
    obtain ⟨l, m, n, o, e4, _⟩ := trod_span g4
    simp at e0 e1 e2 e3 e4
    obtain ⟨rfl, rfl, rfl, rfl, rfl⟩ := e0
    obtain ⟨rfl, rfl⟩ := e1
    obtain ⟨rfl, rfl⟩ := e2
    obtain ⟨rfl, rfl⟩ := e3
    obtain ⟨rfl, rfl, rfl, rfl⟩ := e4
    have hcs : cs = #[.int .i64 t, .int .i64 a, .int .i64 b, .int .i64 c, .int .i64 d, .int .i64 e, .int .i64 f, .int .i64 g, .int .i64 h, .int .i64 i, .int .i64 k, .int .i64 l, .int .i64 m, .int .i64 n, .int .i64 o] := by
      cases cs; simpa [Value.cells] using hc
    subst hcs
    exact ⟨⟨t, a, b, c, d, e, f, g, h, i, k, l, m, n, o⟩, rfl⟩
end
end Go.Proofs.YtkeflpcokcfcjaaDoor
