/- WALKS: operate, and the four operations that the package exports. -/
import Derived.Test.YtnijgondbpnpfaaF
namespace Go.Proofs.Ytnijgondbpnpfaa
open Go.RowKit Go.Sort

theorem okB_bd {p q : Int} (h : okB p q = true) : 1 ≤ q ∧ q ≤ 1000000000 ∧ -1000000000 ≤ p ∧ p ≤ 1000000000 := by
  rw [okB_iff] at h; unfold Ok at h; omega
set_option maxRecDepth 20000 in
set_option maxHeartbeats 400000 in
theorem opr_plus_i1 (a b c d : Int) (w : World) (h1 : okB a b = false):
    Calls Try.prog 92 #[.int .i64 0, fr a b, fr c d] w fun e w' => e = .returned (.tuple #[fr (0) (0), .int .i64 1]) ∧ Gr w w' := by
  go_enter Try.func92, Try.ntmps92
  go_wp2_with fail
  refine (iok_any _ _ _).mono ?_
  rintro e w1 ⟨rfl, hg1⟩
  obtain ⟨x0, x1, x2, _, G1⟩ := alloc3 hg1
  obtain ⟨_, _⟩ := cells2 x1
  obtain ⟨_, _⟩ := cells2 x2
  have _ := fz x2
  have G1 := hid G1
  clear hg1 x0 x1 x2
  go_wp2
  refine bodyPost_ret (v := .tuple #[fr (0) (0), .int .i64 1]) (by simp [results, Try.results92, go_sem, *]) rfl ⟨rfl, ?_⟩
  exact (G1.out.setCell (by simp; omega) _).setCell (by simp; omega) _
set_option maxRecDepth 20000 in
set_option maxHeartbeats 400000 in
theorem opr_plus_i2 (a b c d : Int) (w : World) (h1 : okB a b = true) (h2 : okB c d = false):
    Calls Try.prog 92 #[.int .i64 0, fr a b, fr c d] w fun e w' => e = .returned (.tuple #[fr (0) (0), .int .i64 1]) ∧ Gr w w' := by
  go_enter Try.func92, Try.ntmps92
  go_wp2_with fail
  refine (iok_any _ _ _).mono ?_
  rintro e w1 ⟨rfl, hg1⟩
  obtain ⟨x0, x1, x2, _, G1⟩ := alloc3 hg1
  obtain ⟨_, _⟩ := cells2 x1
  obtain ⟨_, _⟩ := cells2 x2
  have _ := fz x2
  have G1 := hid G1
  have X0 := hid x0; have X1 := hid x1; have X2 := hid x2
  clear hg1 x0 x1 x2
  go_wp2_with fail
  refine (iok_any _ _ _).mono ?_
  rintro e w2 ⟨rfl, hg2⟩
  have x0 := hg2.keep X0.out
  have x1 := hg2.keep X1.out
  have x2 := hg2.keep X2.out
  obtain ⟨_, _⟩ := cells2 x2
  have _ := fz x2
  have G2 := hid (G1.out.trans hg2)
  clear hg2
  clear x0 x1 x2
  go_wp2
  refine bodyPost_ret (v := .tuple #[fr (0) (0), .int .i64 1]) (by simp [results, Try.results92, go_sem, *]) rfl ⟨rfl, ?_⟩
  exact (G2.out.setCell (by simp; omega) _).setCell (by simp; omega) _
set_option maxRecDepth 20000 in
set_option maxHeartbeats 400000 in
theorem opr_plus_ok (a b c d : Int) (w : World) (h1 : okB a b = true) (h2 : okB c d = true) (hk : okB (redP (a*d+c*b) (b*d)) (redQ (a*d+c*b) (b*d)) = true):
    Calls Try.prog 92 #[.int .i64 0, fr a b, fr c d] w fun e w' => e = .returned (.tuple #[fr (redP (a*d+c*b) (b*d)) (redQ (a*d+c*b) (b*d)), .int .i64 0]) ∧ Gr w w' := by
  obtain ⟨b1, b2, b3, b4⟩ := okB_bd h1
  obtain ⟨d1, d2, d3, d4⟩ := okB_bd h2
  have K := hid hk; clear hk
  have hix : ∀ w, (Instr.index 104 (.agg #[.func (.func 118) #[] #[], .func (.func 117) #[] #[], .func (.func 151) #[] #[], .func (.func 154) #[] #[]]) (.int .i64 0)).run Try.prog w = .ok (.func (.func 118) #[] #[]) w := fun _ => by kernel_rfl
  go_enter Try.func92, Try.ntmps92
  go_wp2_with fail
  refine (iok_any _ _ _).mono ?_
  rintro e w1 ⟨rfl, hg1⟩
  obtain ⟨x0, x1, x2, _, G1⟩ := alloc3 hg1
  obtain ⟨_, _⟩ := cells2 x1
  obtain ⟨_, _⟩ := cells2 x2
  have _ := fz x2
  have G1 := hid G1
  have X0 := hid x0; have X1 := hid x1; have X2 := hid x2
  clear hg1 x0 x1 x2
  go_wp2_with fail
  refine (iok_any _ _ _).mono ?_
  rintro e w2 ⟨rfl, hg2⟩
  have x0 := hg2.keep X0.out
  have x1 := hg2.keep X1.out
  have x2 := hg2.keep X2.out
  obtain ⟨_, _⟩ := cells2 x2
  have _ := fz x2
  have G2 := hid (G1.out.trans hg2)
  clear hg2
  have X0 := hid x0; have X1 := hid x1; have X2 := hid x2
  clear x0 x1 x2
  go_wp2_with fail
  refine (ops_any _).mono ?_
  rintro e w3 ⟨rfl, hg3⟩
  go_wp2_with fail
  refine (told_ok_F 139 _ _ _ _ (fun _ => by kernel_rfl) (fun w' hg' => clos_plus_ok a b c d w' _ _ _ _ (alloc1 hg').1 ((alloc1 hg').2.2.keep (hg3.keep X0.out)) ((alloc1 hg').2.2.keep (hg3.keep X1.out)) b1 b2 b3 b4 d1 d2 d3 d4 K.out)).mono ?_
  rintro e w4 ⟨rfl, hg4⟩
  obtain ⟨_, _, G4⟩ := alloc1 hg4
  have x2 := G4.keep (hg3.keep X2.out)
  obtain ⟨_, _⟩ := cells2 x2
  have _ := fz x2
  have G5 := hid ((G2.out.trans hg3).trans G4)
  clear hg3 hg4 G4
  clear x2
  go_wp2
  refine bodyPost_ret (v := .tuple #[fr (redP (a*d+c*b) (b*d)) (redQ (a*d+c*b) (b*d)), .int .i64 0]) (by simp [results, Try.results92, go_sem, *]) rfl ⟨rfl, ?_⟩
  exact (G5.out.setCell (by simp; omega) _).setCell (by simp; omega) _
set_option maxRecDepth 20000 in
set_option maxHeartbeats 400000 in
theorem opr_plus_bad (a b c d : Int) (w : World) (h1 : okB a b = true) (h2 : okB c d = true) (hk : okB (redP (a*d+c*b) (b*d)) (redQ (a*d+c*b) (b*d)) = false):
    Calls Try.prog 92 #[.int .i64 0, fr a b, fr c d] w fun e w' => e = .returned (.tuple #[fr (0) (0), .int .i64 3]) ∧ Gr w w' := by
  obtain ⟨b1, b2, b3, b4⟩ := okB_bd h1
  obtain ⟨d1, d2, d3, d4⟩ := okB_bd h2
  have K := hid hk; clear hk
  have hix : ∀ w, (Instr.index 104 (.agg #[.func (.func 118) #[] #[], .func (.func 117) #[] #[], .func (.func 151) #[] #[], .func (.func 154) #[] #[]]) (.int .i64 0)).run Try.prog w = .ok (.func (.func 118) #[] #[]) w := fun _ => by kernel_rfl
  go_enter Try.func92, Try.ntmps92
  go_wp2_with fail
  refine (iok_any _ _ _).mono ?_
  rintro e w1 ⟨rfl, hg1⟩
  obtain ⟨x0, x1, x2, _, G1⟩ := alloc3 hg1
  obtain ⟨_, _⟩ := cells2 x1
  obtain ⟨_, _⟩ := cells2 x2
  have _ := fz x2
  have G1 := hid G1
  have X0 := hid x0; have X1 := hid x1; have X2 := hid x2
  clear hg1 x0 x1 x2
  go_wp2_with fail
  refine (iok_any _ _ _).mono ?_
  rintro e w2 ⟨rfl, hg2⟩
  have x0 := hg2.keep X0.out
  have x1 := hg2.keep X1.out
  have x2 := hg2.keep X2.out
  obtain ⟨_, _⟩ := cells2 x2
  have _ := fz x2
  have G2 := hid (G1.out.trans hg2)
  clear hg2
  have X0 := hid x0; have X1 := hid x1; have X2 := hid x2
  clear x0 x1 x2
  go_wp2_with fail
  refine (ops_any _).mono ?_
  rintro e w3 ⟨rfl, hg3⟩
  go_wp2_with fail
  refine (told_great_F 139 _ _ (fun _ => by kernel_rfl) (fun w' hg' => clos_plus_bad a b c d w' _ _ _ _ (alloc1 hg').1 ((alloc1 hg').2.2.keep (hg3.keep X0.out)) ((alloc1 hg').2.2.keep (hg3.keep X1.out)) b1 b2 b3 b4 d1 d2 d3 d4 K.out)).mono ?_
  rintro e w4 ⟨rfl, hg4⟩
  obtain ⟨_, _, G4⟩ := alloc1 hg4
  have x2 := G4.keep (hg3.keep X2.out)
  obtain ⟨_, _⟩ := cells2 x2
  have _ := fz x2
  have G5 := hid ((G2.out.trans hg3).trans G4)
  clear hg3 hg4 G4
  clear x2
  go_wp2
  refine bodyPost_ret (v := .tuple #[fr (0) (0), .int .i64 3]) (by simp [results, Try.results92, go_sem, *]) rfl ⟨rfl, ?_⟩
  exact (G5.out.setCell (by simp; omega) _).setCell (by simp; omega) _
set_option maxRecDepth 20000 in
set_option maxHeartbeats 400000 in
theorem opr_minus_i1 (a b c d : Int) (w : World) (h1 : okB a b = false):
    Calls Try.prog 92 #[.int .i64 1, fr a b, fr c d] w fun e w' => e = .returned (.tuple #[fr (0) (0), .int .i64 1]) ∧ Gr w w' := by
  go_enter Try.func92, Try.ntmps92
  go_wp2_with fail
  refine (iok_any _ _ _).mono ?_
  rintro e w1 ⟨rfl, hg1⟩
  obtain ⟨x0, x1, x2, _, G1⟩ := alloc3 hg1
  obtain ⟨_, _⟩ := cells2 x1
  obtain ⟨_, _⟩ := cells2 x2
  have _ := fz x2
  have G1 := hid G1
  clear hg1 x0 x1 x2
  go_wp2
  refine bodyPost_ret (v := .tuple #[fr (0) (0), .int .i64 1]) (by simp [results, Try.results92, go_sem, *]) rfl ⟨rfl, ?_⟩
  exact (G1.out.setCell (by simp; omega) _).setCell (by simp; omega) _
set_option maxRecDepth 20000 in
set_option maxHeartbeats 400000 in
theorem opr_minus_i2 (a b c d : Int) (w : World) (h1 : okB a b = true) (h2 : okB c d = false):
    Calls Try.prog 92 #[.int .i64 1, fr a b, fr c d] w fun e w' => e = .returned (.tuple #[fr (0) (0), .int .i64 1]) ∧ Gr w w' := by
  go_enter Try.func92, Try.ntmps92
  go_wp2_with fail
  refine (iok_any _ _ _).mono ?_
  rintro e w1 ⟨rfl, hg1⟩
  obtain ⟨x0, x1, x2, _, G1⟩ := alloc3 hg1
  obtain ⟨_, _⟩ := cells2 x1
  obtain ⟨_, _⟩ := cells2 x2
  have _ := fz x2
  have G1 := hid G1
  have X0 := hid x0; have X1 := hid x1; have X2 := hid x2
  clear hg1 x0 x1 x2
  go_wp2_with fail
  refine (iok_any _ _ _).mono ?_
  rintro e w2 ⟨rfl, hg2⟩
  have x0 := hg2.keep X0.out
  have x1 := hg2.keep X1.out
  have x2 := hg2.keep X2.out
  obtain ⟨_, _⟩ := cells2 x2
  have _ := fz x2
  have G2 := hid (G1.out.trans hg2)
  clear hg2
  clear x0 x1 x2
  go_wp2
  refine bodyPost_ret (v := .tuple #[fr (0) (0), .int .i64 1]) (by simp [results, Try.results92, go_sem, *]) rfl ⟨rfl, ?_⟩
  exact (G2.out.setCell (by simp; omega) _).setCell (by simp; omega) _
set_option maxRecDepth 20000 in
set_option maxHeartbeats 400000 in
theorem opr_minus_ok (a b c d : Int) (w : World) (h1 : okB a b = true) (h2 : okB c d = true) (hk : okB (redP (a*d-c*b) (b*d)) (redQ (a*d-c*b) (b*d)) = true):
    Calls Try.prog 92 #[.int .i64 1, fr a b, fr c d] w fun e w' => e = .returned (.tuple #[fr (redP (a*d-c*b) (b*d)) (redQ (a*d-c*b) (b*d)), .int .i64 0]) ∧ Gr w w' := by
  obtain ⟨b1, b2, b3, b4⟩ := okB_bd h1
  obtain ⟨d1, d2, d3, d4⟩ := okB_bd h2
  have K := hid hk; clear hk
  have hix : ∀ w, (Instr.index 104 (.agg #[.func (.func 118) #[] #[], .func (.func 117) #[] #[], .func (.func 151) #[] #[], .func (.func 154) #[] #[]]) (.int .i64 1)).run Try.prog w = .ok (.func (.func 117) #[] #[]) w := fun _ => by kernel_rfl
  go_enter Try.func92, Try.ntmps92
  go_wp2_with fail
  refine (iok_any _ _ _).mono ?_
  rintro e w1 ⟨rfl, hg1⟩
  obtain ⟨x0, x1, x2, _, G1⟩ := alloc3 hg1
  obtain ⟨_, _⟩ := cells2 x1
  obtain ⟨_, _⟩ := cells2 x2
  have _ := fz x2
  have G1 := hid G1
  have X0 := hid x0; have X1 := hid x1; have X2 := hid x2
  clear hg1 x0 x1 x2
  go_wp2_with fail
  refine (iok_any _ _ _).mono ?_
  rintro e w2 ⟨rfl, hg2⟩
  have x0 := hg2.keep X0.out
  have x1 := hg2.keep X1.out
  have x2 := hg2.keep X2.out
  obtain ⟨_, _⟩ := cells2 x2
  have _ := fz x2
  have G2 := hid (G1.out.trans hg2)
  clear hg2
  have X0 := hid x0; have X1 := hid x1; have X2 := hid x2
  clear x0 x1 x2
  go_wp2_with fail
  refine (ops_any _).mono ?_
  rintro e w3 ⟨rfl, hg3⟩
  go_wp2_with fail
  refine (told_ok_F 139 _ _ _ _ (fun _ => by kernel_rfl) (fun w' hg' => clos_minus_ok a b c d w' _ _ _ _ (alloc1 hg').1 ((alloc1 hg').2.2.keep (hg3.keep X0.out)) ((alloc1 hg').2.2.keep (hg3.keep X1.out)) b1 b2 b3 b4 d1 d2 d3 d4 K.out)).mono ?_
  rintro e w4 ⟨rfl, hg4⟩
  obtain ⟨_, _, G4⟩ := alloc1 hg4
  have x2 := G4.keep (hg3.keep X2.out)
  obtain ⟨_, _⟩ := cells2 x2
  have _ := fz x2
  have G5 := hid ((G2.out.trans hg3).trans G4)
  clear hg3 hg4 G4
  clear x2
  go_wp2
  refine bodyPost_ret (v := .tuple #[fr (redP (a*d-c*b) (b*d)) (redQ (a*d-c*b) (b*d)), .int .i64 0]) (by simp [results, Try.results92, go_sem, *]) rfl ⟨rfl, ?_⟩
  exact (G5.out.setCell (by simp; omega) _).setCell (by simp; omega) _
set_option maxRecDepth 20000 in
set_option maxHeartbeats 400000 in
theorem opr_minus_bad (a b c d : Int) (w : World) (h1 : okB a b = true) (h2 : okB c d = true) (hk : okB (redP (a*d-c*b) (b*d)) (redQ (a*d-c*b) (b*d)) = false):
    Calls Try.prog 92 #[.int .i64 1, fr a b, fr c d] w fun e w' => e = .returned (.tuple #[fr (0) (0), .int .i64 3]) ∧ Gr w w' := by
  obtain ⟨b1, b2, b3, b4⟩ := okB_bd h1
  obtain ⟨d1, d2, d3, d4⟩ := okB_bd h2
  have K := hid hk; clear hk
  have hix : ∀ w, (Instr.index 104 (.agg #[.func (.func 118) #[] #[], .func (.func 117) #[] #[], .func (.func 151) #[] #[], .func (.func 154) #[] #[]]) (.int .i64 1)).run Try.prog w = .ok (.func (.func 117) #[] #[]) w := fun _ => by kernel_rfl
  go_enter Try.func92, Try.ntmps92
  go_wp2_with fail
  refine (iok_any _ _ _).mono ?_
  rintro e w1 ⟨rfl, hg1⟩
  obtain ⟨x0, x1, x2, _, G1⟩ := alloc3 hg1
  obtain ⟨_, _⟩ := cells2 x1
  obtain ⟨_, _⟩ := cells2 x2
  have _ := fz x2
  have G1 := hid G1
  have X0 := hid x0; have X1 := hid x1; have X2 := hid x2
  clear hg1 x0 x1 x2
  go_wp2_with fail
  refine (iok_any _ _ _).mono ?_
  rintro e w2 ⟨rfl, hg2⟩
  have x0 := hg2.keep X0.out
  have x1 := hg2.keep X1.out
  have x2 := hg2.keep X2.out
  obtain ⟨_, _⟩ := cells2 x2
  have _ := fz x2
  have G2 := hid (G1.out.trans hg2)
  clear hg2
  have X0 := hid x0; have X1 := hid x1; have X2 := hid x2
  clear x0 x1 x2
  go_wp2_with fail
  refine (ops_any _).mono ?_
  rintro e w3 ⟨rfl, hg3⟩
  go_wp2_with fail
  refine (told_great_F 139 _ _ (fun _ => by kernel_rfl) (fun w' hg' => clos_minus_bad a b c d w' _ _ _ _ (alloc1 hg').1 ((alloc1 hg').2.2.keep (hg3.keep X0.out)) ((alloc1 hg').2.2.keep (hg3.keep X1.out)) b1 b2 b3 b4 d1 d2 d3 d4 K.out)).mono ?_
  rintro e w4 ⟨rfl, hg4⟩
  obtain ⟨_, _, G4⟩ := alloc1 hg4
  have x2 := G4.keep (hg3.keep X2.out)
  obtain ⟨_, _⟩ := cells2 x2
  have _ := fz x2
  have G5 := hid ((G2.out.trans hg3).trans G4)
  clear hg3 hg4 G4
  clear x2
  go_wp2
  refine bodyPost_ret (v := .tuple #[fr (0) (0), .int .i64 3]) (by simp [results, Try.results92, go_sem, *]) rfl ⟨rfl, ?_⟩
  exact (G5.out.setCell (by simp; omega) _).setCell (by simp; omega) _
set_option maxRecDepth 20000 in
set_option maxHeartbeats 400000 in
theorem opr_times_i1 (a b c d : Int) (w : World) (h1 : okB a b = false):
    Calls Try.prog 92 #[.int .i64 2, fr a b, fr c d] w fun e w' => e = .returned (.tuple #[fr (0) (0), .int .i64 1]) ∧ Gr w w' := by
  go_enter Try.func92, Try.ntmps92
  go_wp2_with fail
  refine (iok_any _ _ _).mono ?_
  rintro e w1 ⟨rfl, hg1⟩
  obtain ⟨x0, x1, x2, _, G1⟩ := alloc3 hg1
  obtain ⟨_, _⟩ := cells2 x1
  obtain ⟨_, _⟩ := cells2 x2
  have _ := fz x2
  have G1 := hid G1
  clear hg1 x0 x1 x2
  go_wp2
  refine bodyPost_ret (v := .tuple #[fr (0) (0), .int .i64 1]) (by simp [results, Try.results92, go_sem, *]) rfl ⟨rfl, ?_⟩
  exact (G1.out.setCell (by simp; omega) _).setCell (by simp; omega) _
set_option maxRecDepth 20000 in
set_option maxHeartbeats 400000 in
theorem opr_times_i2 (a b c d : Int) (w : World) (h1 : okB a b = true) (h2 : okB c d = false):
    Calls Try.prog 92 #[.int .i64 2, fr a b, fr c d] w fun e w' => e = .returned (.tuple #[fr (0) (0), .int .i64 1]) ∧ Gr w w' := by
  go_enter Try.func92, Try.ntmps92
  go_wp2_with fail
  refine (iok_any _ _ _).mono ?_
  rintro e w1 ⟨rfl, hg1⟩
  obtain ⟨x0, x1, x2, _, G1⟩ := alloc3 hg1
  obtain ⟨_, _⟩ := cells2 x1
  obtain ⟨_, _⟩ := cells2 x2
  have _ := fz x2
  have G1 := hid G1
  have X0 := hid x0; have X1 := hid x1; have X2 := hid x2
  clear hg1 x0 x1 x2
  go_wp2_with fail
  refine (iok_any _ _ _).mono ?_
  rintro e w2 ⟨rfl, hg2⟩
  have x0 := hg2.keep X0.out
  have x1 := hg2.keep X1.out
  have x2 := hg2.keep X2.out
  obtain ⟨_, _⟩ := cells2 x2
  have _ := fz x2
  have G2 := hid (G1.out.trans hg2)
  clear hg2
  clear x0 x1 x2
  go_wp2
  refine bodyPost_ret (v := .tuple #[fr (0) (0), .int .i64 1]) (by simp [results, Try.results92, go_sem, *]) rfl ⟨rfl, ?_⟩
  exact (G2.out.setCell (by simp; omega) _).setCell (by simp; omega) _
set_option maxRecDepth 20000 in
set_option maxHeartbeats 400000 in
theorem opr_times_ok (a b c d : Int) (w : World) (h1 : okB a b = true) (h2 : okB c d = true) (hk : okB (redP (a*c) (b*d)) (redQ (a*c) (b*d)) = true):
    Calls Try.prog 92 #[.int .i64 2, fr a b, fr c d] w fun e w' => e = .returned (.tuple #[fr (redP (a*c) (b*d)) (redQ (a*c) (b*d)), .int .i64 0]) ∧ Gr w w' := by
  obtain ⟨b1, b2, b3, b4⟩ := okB_bd h1
  obtain ⟨d1, d2, d3, d4⟩ := okB_bd h2
  have K := hid hk; clear hk
  have hix : ∀ w, (Instr.index 104 (.agg #[.func (.func 118) #[] #[], .func (.func 117) #[] #[], .func (.func 151) #[] #[], .func (.func 154) #[] #[]]) (.int .i64 2)).run Try.prog w = .ok (.func (.func 151) #[] #[]) w := fun _ => by kernel_rfl
  go_enter Try.func92, Try.ntmps92
  go_wp2_with fail
  refine (iok_any _ _ _).mono ?_
  rintro e w1 ⟨rfl, hg1⟩
  obtain ⟨x0, x1, x2, _, G1⟩ := alloc3 hg1
  obtain ⟨_, _⟩ := cells2 x1
  obtain ⟨_, _⟩ := cells2 x2
  have _ := fz x2
  have G1 := hid G1
  have X0 := hid x0; have X1 := hid x1; have X2 := hid x2
  clear hg1 x0 x1 x2
  go_wp2_with fail
  refine (iok_any _ _ _).mono ?_
  rintro e w2 ⟨rfl, hg2⟩
  have x0 := hg2.keep X0.out
  have x1 := hg2.keep X1.out
  have x2 := hg2.keep X2.out
  obtain ⟨_, _⟩ := cells2 x2
  have _ := fz x2
  have G2 := hid (G1.out.trans hg2)
  clear hg2
  have X0 := hid x0; have X1 := hid x1; have X2 := hid x2
  clear x0 x1 x2
  go_wp2_with fail
  refine (ops_any _).mono ?_
  rintro e w3 ⟨rfl, hg3⟩
  go_wp2_with fail
  refine (told_ok_F 139 _ _ _ _ (fun _ => by kernel_rfl) (fun w' hg' => clos_times_ok a b c d w' _ _ _ _ (alloc1 hg').1 ((alloc1 hg').2.2.keep (hg3.keep X0.out)) ((alloc1 hg').2.2.keep (hg3.keep X1.out)) b1 b2 b3 b4 d1 d2 d3 d4 K.out)).mono ?_
  rintro e w4 ⟨rfl, hg4⟩
  obtain ⟨_, _, G4⟩ := alloc1 hg4
  have x2 := G4.keep (hg3.keep X2.out)
  obtain ⟨_, _⟩ := cells2 x2
  have _ := fz x2
  have G5 := hid ((G2.out.trans hg3).trans G4)
  clear hg3 hg4 G4
  clear x2
  go_wp2
  refine bodyPost_ret (v := .tuple #[fr (redP (a*c) (b*d)) (redQ (a*c) (b*d)), .int .i64 0]) (by simp [results, Try.results92, go_sem, *]) rfl ⟨rfl, ?_⟩
  exact (G5.out.setCell (by simp; omega) _).setCell (by simp; omega) _
set_option maxRecDepth 20000 in
set_option maxHeartbeats 400000 in
theorem opr_times_bad (a b c d : Int) (w : World) (h1 : okB a b = true) (h2 : okB c d = true) (hk : okB (redP (a*c) (b*d)) (redQ (a*c) (b*d)) = false):
    Calls Try.prog 92 #[.int .i64 2, fr a b, fr c d] w fun e w' => e = .returned (.tuple #[fr (0) (0), .int .i64 3]) ∧ Gr w w' := by
  obtain ⟨b1, b2, b3, b4⟩ := okB_bd h1
  obtain ⟨d1, d2, d3, d4⟩ := okB_bd h2
  have K := hid hk; clear hk
  have hix : ∀ w, (Instr.index 104 (.agg #[.func (.func 118) #[] #[], .func (.func 117) #[] #[], .func (.func 151) #[] #[], .func (.func 154) #[] #[]]) (.int .i64 2)).run Try.prog w = .ok (.func (.func 151) #[] #[]) w := fun _ => by kernel_rfl
  go_enter Try.func92, Try.ntmps92
  go_wp2_with fail
  refine (iok_any _ _ _).mono ?_
  rintro e w1 ⟨rfl, hg1⟩
  obtain ⟨x0, x1, x2, _, G1⟩ := alloc3 hg1
  obtain ⟨_, _⟩ := cells2 x1
  obtain ⟨_, _⟩ := cells2 x2
  have _ := fz x2
  have G1 := hid G1
  have X0 := hid x0; have X1 := hid x1; have X2 := hid x2
  clear hg1 x0 x1 x2
  go_wp2_with fail
  refine (iok_any _ _ _).mono ?_
  rintro e w2 ⟨rfl, hg2⟩
  have x0 := hg2.keep X0.out
  have x1 := hg2.keep X1.out
  have x2 := hg2.keep X2.out
  obtain ⟨_, _⟩ := cells2 x2
  have _ := fz x2
  have G2 := hid (G1.out.trans hg2)
  clear hg2
  have X0 := hid x0; have X1 := hid x1; have X2 := hid x2
  clear x0 x1 x2
  go_wp2_with fail
  refine (ops_any _).mono ?_
  rintro e w3 ⟨rfl, hg3⟩
  go_wp2_with fail
  refine (told_great_F 139 _ _ (fun _ => by kernel_rfl) (fun w' hg' => clos_times_bad a b c d w' _ _ _ _ (alloc1 hg').1 ((alloc1 hg').2.2.keep (hg3.keep X0.out)) ((alloc1 hg').2.2.keep (hg3.keep X1.out)) b1 b2 b3 b4 d1 d2 d3 d4 K.out)).mono ?_
  rintro e w4 ⟨rfl, hg4⟩
  obtain ⟨_, _, G4⟩ := alloc1 hg4
  have x2 := G4.keep (hg3.keep X2.out)
  obtain ⟨_, _⟩ := cells2 x2
  have _ := fz x2
  have G5 := hid ((G2.out.trans hg3).trans G4)
  clear hg3 hg4 G4
  clear x2
  go_wp2
  refine bodyPost_ret (v := .tuple #[fr (0) (0), .int .i64 3]) (by simp [results, Try.results92, go_sem, *]) rfl ⟨rfl, ?_⟩
  exact (G5.out.setCell (by simp; omega) _).setCell (by simp; omega) _
set_option maxRecDepth 20000 in
set_option maxHeartbeats 400000 in
theorem opr_over_i1 (a b c d : Int) (w : World) (h1 : okB a b = false):
    Calls Try.prog 92 #[.int .i64 3, fr a b, fr c d] w fun e w' => e = .returned (.tuple #[fr (0) (0), .int .i64 1]) ∧ Gr w w' := by
  go_enter Try.func92, Try.ntmps92
  go_wp2_with fail
  refine (iok_any _ _ _).mono ?_
  rintro e w1 ⟨rfl, hg1⟩
  obtain ⟨x0, x1, x2, _, G1⟩ := alloc3 hg1
  obtain ⟨_, _⟩ := cells2 x1
  obtain ⟨_, _⟩ := cells2 x2
  have _ := fz x2
  have G1 := hid G1
  clear hg1 x0 x1 x2
  go_wp2
  refine bodyPost_ret (v := .tuple #[fr (0) (0), .int .i64 1]) (by simp [results, Try.results92, go_sem, *]) rfl ⟨rfl, ?_⟩
  exact (G1.out.setCell (by simp; omega) _).setCell (by simp; omega) _
set_option maxRecDepth 20000 in
set_option maxHeartbeats 400000 in
theorem opr_over_i2 (a b c d : Int) (w : World) (h1 : okB a b = true) (h2 : okB c d = false):
    Calls Try.prog 92 #[.int .i64 3, fr a b, fr c d] w fun e w' => e = .returned (.tuple #[fr (0) (0), .int .i64 1]) ∧ Gr w w' := by
  go_enter Try.func92, Try.ntmps92
  go_wp2_with fail
  refine (iok_any _ _ _).mono ?_
  rintro e w1 ⟨rfl, hg1⟩
  obtain ⟨x0, x1, x2, _, G1⟩ := alloc3 hg1
  obtain ⟨_, _⟩ := cells2 x1
  obtain ⟨_, _⟩ := cells2 x2
  have _ := fz x2
  have G1 := hid G1
  have X0 := hid x0; have X1 := hid x1; have X2 := hid x2
  clear hg1 x0 x1 x2
  go_wp2_with fail
  refine (iok_any _ _ _).mono ?_
  rintro e w2 ⟨rfl, hg2⟩
  have x0 := hg2.keep X0.out
  have x1 := hg2.keep X1.out
  have x2 := hg2.keep X2.out
  obtain ⟨_, _⟩ := cells2 x2
  have _ := fz x2
  have G2 := hid (G1.out.trans hg2)
  clear hg2
  clear x0 x1 x2
  go_wp2
  refine bodyPost_ret (v := .tuple #[fr (0) (0), .int .i64 1]) (by simp [results, Try.results92, go_sem, *]) rfl ⟨rfl, ?_⟩
  exact (G2.out.setCell (by simp; omega) _).setCell (by simp; omega) _
set_option maxRecDepth 20000 in
set_option maxHeartbeats 400000 in
theorem opr_over_ok (a b c d : Int) (w : World) (h1 : okB a b = true) (h2 : okB c d = true) (hz : c ≠ 0) (hk : okB (redP (a*d) (b*c)) (redQ (a*d) (b*c)) = true):
    Calls Try.prog 92 #[.int .i64 3, fr a b, fr c d] w fun e w' => e = .returned (.tuple #[fr (redP (a*d) (b*c)) (redQ (a*d) (b*c)), .int .i64 0]) ∧ Gr w w' := by
  obtain ⟨b1, b2, b3, b4⟩ := okB_bd h1
  obtain ⟨d1, d2, d3, d4⟩ := okB_bd h2
  have K := hid hk; clear hk
  have hix : ∀ w, (Instr.index 104 (.agg #[.func (.func 118) #[] #[], .func (.func 117) #[] #[], .func (.func 151) #[] #[], .func (.func 154) #[] #[]]) (.int .i64 3)).run Try.prog w = .ok (.func (.func 154) #[] #[]) w := fun _ => by kernel_rfl
  go_enter Try.func92, Try.ntmps92
  go_wp2_with fail
  refine (iok_any _ _ _).mono ?_
  rintro e w1 ⟨rfl, hg1⟩
  obtain ⟨x0, x1, x2, _, G1⟩ := alloc3 hg1
  obtain ⟨_, _⟩ := cells2 x1
  obtain ⟨_, _⟩ := cells2 x2
  have _ := fz x2
  have G1 := hid G1
  have X0 := hid x0; have X1 := hid x1; have X2 := hid x2
  clear hg1 x0 x1 x2
  go_wp2_with fail
  refine (iok_any _ _ _).mono ?_
  rintro e w2 ⟨rfl, hg2⟩
  have x0 := hg2.keep X0.out
  have x1 := hg2.keep X1.out
  have x2 := hg2.keep X2.out
  obtain ⟨_, _⟩ := cells2 x2
  have _ := fz x2
  have G2 := hid (G1.out.trans hg2)
  clear hg2
  have X0 := hid x0; have X1 := hid x1; have X2 := hid x2
  clear x0 x1 x2
  go_wp2_with fail
  refine (ops_any _).mono ?_
  rintro e w3 ⟨rfl, hg3⟩
  go_wp2_with fail
  refine (told_ok_F 139 _ _ _ _ (fun _ => by kernel_rfl) (fun w' hg' => clos_over_ok a b c d w' _ _ _ _ (alloc1 hg').1 ((alloc1 hg').2.2.keep (hg3.keep X0.out)) ((alloc1 hg').2.2.keep (hg3.keep X1.out)) b1 b2 b3 b4 d1 d2 d3 d4 hz K.out)).mono ?_
  rintro e w4 ⟨rfl, hg4⟩
  obtain ⟨_, _, G4⟩ := alloc1 hg4
  have x2 := G4.keep (hg3.keep X2.out)
  obtain ⟨_, _⟩ := cells2 x2
  have _ := fz x2
  have G5 := hid ((G2.out.trans hg3).trans G4)
  clear hg3 hg4 G4
  clear x2
  go_wp2
  refine bodyPost_ret (v := .tuple #[fr (redP (a*d) (b*c)) (redQ (a*d) (b*c)), .int .i64 0]) (by simp [results, Try.results92, go_sem, *]) rfl ⟨rfl, ?_⟩
  exact (G5.out.setCell (by simp; omega) _).setCell (by simp; omega) _
set_option maxRecDepth 20000 in
set_option maxHeartbeats 400000 in
theorem opr_over_bad (a b c d : Int) (w : World) (h1 : okB a b = true) (h2 : okB c d = true) (hz : c ≠ 0) (hk : okB (redP (a*d) (b*c)) (redQ (a*d) (b*c)) = false):
    Calls Try.prog 92 #[.int .i64 3, fr a b, fr c d] w fun e w' => e = .returned (.tuple #[fr (0) (0), .int .i64 3]) ∧ Gr w w' := by
  obtain ⟨b1, b2, b3, b4⟩ := okB_bd h1
  obtain ⟨d1, d2, d3, d4⟩ := okB_bd h2
  have K := hid hk; clear hk
  have hix : ∀ w, (Instr.index 104 (.agg #[.func (.func 118) #[] #[], .func (.func 117) #[] #[], .func (.func 151) #[] #[], .func (.func 154) #[] #[]]) (.int .i64 3)).run Try.prog w = .ok (.func (.func 154) #[] #[]) w := fun _ => by kernel_rfl
  go_enter Try.func92, Try.ntmps92
  go_wp2_with fail
  refine (iok_any _ _ _).mono ?_
  rintro e w1 ⟨rfl, hg1⟩
  obtain ⟨x0, x1, x2, _, G1⟩ := alloc3 hg1
  obtain ⟨_, _⟩ := cells2 x1
  obtain ⟨_, _⟩ := cells2 x2
  have _ := fz x2
  have G1 := hid G1
  have X0 := hid x0; have X1 := hid x1; have X2 := hid x2
  clear hg1 x0 x1 x2
  go_wp2_with fail
  refine (iok_any _ _ _).mono ?_
  rintro e w2 ⟨rfl, hg2⟩
  have x0 := hg2.keep X0.out
  have x1 := hg2.keep X1.out
  have x2 := hg2.keep X2.out
  obtain ⟨_, _⟩ := cells2 x2
  have _ := fz x2
  have G2 := hid (G1.out.trans hg2)
  clear hg2
  have X0 := hid x0; have X1 := hid x1; have X2 := hid x2
  clear x0 x1 x2
  go_wp2_with fail
  refine (ops_any _).mono ?_
  rintro e w3 ⟨rfl, hg3⟩
  go_wp2_with fail
  refine (told_great_F 139 _ _ (fun _ => by kernel_rfl) (fun w' hg' => clos_over_bad a b c d w' _ _ _ _ (alloc1 hg').1 ((alloc1 hg').2.2.keep (hg3.keep X0.out)) ((alloc1 hg').2.2.keep (hg3.keep X1.out)) b1 b2 b3 b4 d1 d2 d3 d4 hz K.out)).mono ?_
  rintro e w4 ⟨rfl, hg4⟩
  obtain ⟨_, _, G4⟩ := alloc1 hg4
  have x2 := G4.keep (hg3.keep X2.out)
  obtain ⟨_, _⟩ := cells2 x2
  have _ := fz x2
  have G5 := hid ((G2.out.trans hg3).trans G4)
  clear hg3 hg4 G4
  clear x2
  go_wp2
  refine bodyPost_ret (v := .tuple #[fr (0) (0), .int .i64 3]) (by simp [results, Try.results92, go_sem, *]) rfl ⟨rfl, ?_⟩
  exact (G5.out.setCell (by simp; omega) _).setCell (by simp; omega) _
set_option maxRecDepth 20000 in
set_option maxHeartbeats 400000 in
theorem opr_over_zero (a b d : Int) (w : World) (h1 : okB a b = true) (h2 : okB 0 d = true) :
    Calls Try.prog 92 #[.int .i64 3, fr a b, fr 0 d] w fun e w' => e = .returned (.tuple #[fr (0) (0), .int .i64 4]) ∧ Gr w w' := by
  obtain ⟨b1, b2, b3, b4⟩ := okB_bd h1
  obtain ⟨d1, d2, d3, d4⟩ := okB_bd h2
  have hix : ∀ w, (Instr.index 104 (.agg #[.func (.func 118) #[] #[], .func (.func 117) #[] #[], .func (.func 151) #[] #[], .func (.func 154) #[] #[]]) (.int .i64 3)).run Try.prog w = .ok (.func (.func 154) #[] #[]) w := fun _ => by kernel_rfl
  go_enter Try.func92, Try.ntmps92
  go_wp2_with fail
  refine (iok_any _ _ _).mono ?_
  rintro e w1 ⟨rfl, hg1⟩
  obtain ⟨x0, x1, x2, _, G1⟩ := alloc3 hg1
  obtain ⟨_, _⟩ := cells2 x1
  obtain ⟨_, _⟩ := cells2 x2
  have _ := fz x2
  have G1 := hid G1
  have X0 := hid x0; have X1 := hid x1; have X2 := hid x2
  clear hg1 x0 x1 x2
  go_wp2_with fail
  refine (iok_any _ _ _).mono ?_
  rintro e w2 ⟨rfl, hg2⟩
  have x0 := hg2.keep X0.out
  have x1 := hg2.keep X1.out
  have x2 := hg2.keep X2.out
  obtain ⟨_, _⟩ := cells2 x2
  have _ := fz x2
  have G2 := hid (G1.out.trans hg2)
  clear hg2
  have X0 := hid x0; have X1 := hid x1; have X2 := hid x2
  clear x0 x1 x2
  go_wp2_with fail
  refine (ops_any _).mono ?_
  rintro e w3 ⟨rfl, hg3⟩
  go_wp2_with fail
  refine (told_zero_F 139 _ _ (fun _ => by kernel_rfl) (fun w' hg' => clos_over_zero a b d w' _ _ _ _ (alloc1 hg').1 ((alloc1 hg').2.2.keep (hg3.keep X0.out)) ((alloc1 hg').2.2.keep (hg3.keep X1.out)))).mono ?_
  rintro e w4 ⟨rfl, hg4⟩
  obtain ⟨_, _, G4⟩ := alloc1 hg4
  have x2 := G4.keep (hg3.keep X2.out)
  obtain ⟨_, _⟩ := cells2 x2
  have _ := fz x2
  have G5 := hid ((G2.out.trans hg3).trans G4)
  clear hg3 hg4 G4
  clear x2
  go_wp2
  refine bodyPost_ret (v := .tuple #[fr (0) (0), .int .i64 4]) (by simp [results, Try.results92, go_sem, *]) rfl ⟨rfl, ?_⟩
  exact (G5.out.setCell (by simp; omega) _).setCell (by simp; omega) _
end Go.Proofs.Ytnijgondbpnpfaa
