/- WALKS: MakeFrac, of the program and of the reference, case by case. -/
import Derived.Test.YtljmbdjojogbjaaK
namespace Go.Proofs.Ytljmbdjojogbjaa
open Go.RowKit Go.Sort

theorem gt_in {n m : Int} (h : gtB n m = false) : inB n (-m) m = true := by
  unfold gtB at h; unfold inB; simp at h ⊢; omega
theorem gt_out {n m : Int} (h : gtB n m = true) : inB n (-m) m = false := by
  unfold gtB at h; unfold inB; simp at h ⊢; omega
theorem gt_bd {n m : Int} (h : gtB n m = false) : -m ≤ n ∧ n ≤ m := by
  unfold gtB at h; simp at h; omega

set_option maxRecDepth 20000 in
set_option maxHeartbeats 400000 in
theorem iMake_r1 (p q : Int) (w : World) (h1 : gtB p 1000000000000000000 = true) :
    Calls Try.prog 56 #[.int .i64 p, .int .i64 q] w fun e w' => e = .returned (.tuple #[fr (0) (0), .int .i64 2]) ∧ Gr w w' := by
  go_enter Try.func56, Try.ntmps56
  go_wp2_with (go_at_call 35; refine (gt_any _ _ _ (by omega) (by omega)).mono ?_; rintro e w1 ⟨rfl, rfl⟩)
  refine bodyPost_ret (v := .tuple #[fr (0) (0), .int .i64 2]) (by simp [results, Try.results56, go_sem]) rfl ⟨rfl, ?_⟩
  exact ((Gr.alloc _ _).trans (Gr.alloc _ _)).trans (Gr.alloc _ _)
set_option maxRecDepth 20000 in
set_option maxHeartbeats 400000 in
theorem iMake_r2 (p q : Int) (w : World) (h1 : gtB p 1000000000000000000 = false) (h2 : gtB q 1000000000000000000 = true) :
    Calls Try.prog 56 #[.int .i64 p, .int .i64 q] w fun e w' => e = .returned (.tuple #[fr (0) (0), .int .i64 2]) ∧ Gr w w' := by
  go_enter Try.func56, Try.ntmps56
  go_wp2_with (go_at_call 35; refine (gt_any _ _ _ (by omega) (by omega)).mono ?_; rintro e w1 ⟨rfl, rfl⟩)
  refine bodyPost_ret (v := .tuple #[fr (0) (0), .int .i64 2]) (by simp [results, Try.results56, go_sem]) rfl ⟨rfl, ?_⟩
  exact ((Gr.alloc _ _).trans (Gr.alloc _ _)).trans (Gr.alloc _ _)
set_option maxRecDepth 20000 in
set_option maxHeartbeats 400000 in
theorem iMake_z (p q : Int) (w : World) (h1 : gtB p 1000000000000000000 = false) (h2 : gtB q 1000000000000000000 = false) (h3 : ((q : Int) == 0) = true) :
    Calls Try.prog 56 #[.int .i64 p, .int .i64 q] w fun e w' => e = .returned (.tuple #[fr (0) (0), .int .i64 4]) ∧ Gr w w' := by
  go_enter Try.func56, Try.ntmps56
  go_wp2_with (go_at_call 35; refine (gt_any _ _ _ (by omega) (by omega)).mono ?_; rintro e w1 ⟨rfl, rfl⟩)
  refine bodyPost_ret (v := .tuple #[fr (0) (0), .int .i64 4]) (by simp [results, Try.results56, go_sem]) rfl ⟨rfl, ?_⟩
  exact ((Gr.alloc _ _).trans (Gr.alloc _ _)).trans (Gr.alloc _ _)
set_option maxRecDepth 20000 in
set_option maxHeartbeats 400000 in
theorem iMake_ok (p q : Int) (w : World) (h1 : gtB p 1000000000000000000 = false) (h2 : gtB q 1000000000000000000 = false) (h3 : ((q : Int) == 0) = false) (hk : okB (redP p q) (redQ p q) = true) :
    Calls Try.prog 56 #[.int .i64 p, .int .i64 q] w fun e w' => e = .returned (.tuple #[fr (redP p q) (redQ p q), .int .i64 0]) ∧ Gr w w' := by
  obtain ⟨p1, p2⟩ := gt_bd h1
  obtain ⟨q1, q2⟩ := gt_bd h2
  have hq : q ≠ 0 := by simpa using h3
  have K := hid hk; clear hk
  go_enter Try.func56, Try.ntmps56
  go_wp2_with (go_at_call 35; refine (gt_any _ _ _ (by omega) (by omega)).mono ?_; rintro e w1 ⟨rfl, rfl⟩)
  refine (told_ok_F 69 _ _ _ _ (fun _ => by kernel_rfl) (fun w' hg' => cmake_ok p q w' _ _ _ (alloc3 hg').1 (alloc3 hg').2.1 hq p1 p2 q1 q2 K.out)).mono ?_
  rintro e w1 ⟨rfl, hg1⟩
  obtain ⟨_, _, x2, _, G1⟩ := alloc3 hg1
  obtain ⟨_, _⟩ := cells2 x2
  have _ := fz x2
  have G1 := hid G1
  clear hg1 x2
  go_wp2
  refine bodyPost_ret (v := .tuple #[fr (redP p q) (redQ p q), .int .i64 0]) (by simp [results, Try.results56, go_sem, *]) rfl ⟨rfl, ?_⟩
  exact (G1.out.setCell (by simp; omega) _).setCell (by simp; omega) _
set_option maxRecDepth 20000 in
set_option maxHeartbeats 400000 in
theorem iMake_bad (p q : Int) (w : World) (h1 : gtB p 1000000000000000000 = false) (h2 : gtB q 1000000000000000000 = false) (h3 : ((q : Int) == 0) = false) (hk : okB (redP p q) (redQ p q) = false) :
    Calls Try.prog 56 #[.int .i64 p, .int .i64 q] w fun e w' => e = .returned (.tuple #[fr (0) (0), .int .i64 3]) ∧ Gr w w' := by
  obtain ⟨p1, p2⟩ := gt_bd h1
  obtain ⟨q1, q2⟩ := gt_bd h2
  have hq : q ≠ 0 := by simpa using h3
  have K := hid hk; clear hk
  go_enter Try.func56, Try.ntmps56
  go_wp2_with (go_at_call 35; refine (gt_any _ _ _ (by omega) (by omega)).mono ?_; rintro e w1 ⟨rfl, rfl⟩)
  refine (told_great_F 69 _ _ (fun _ => by kernel_rfl) (fun w' hg' => cmake_bad p q w' _ _ _ (alloc3 hg').1 (alloc3 hg').2.1 hq p1 p2 q1 q2 K.out)).mono ?_
  rintro e w1 ⟨rfl, hg1⟩
  obtain ⟨_, _, x2, _, G1⟩ := alloc3 hg1
  obtain ⟨_, _⟩ := cells2 x2
  have _ := fz x2
  have G1 := hid G1
  clear hg1 x2
  go_wp2
  refine bodyPost_ret (v := .tuple #[fr (0) (0), .int .i64 3]) (by simp [results, Try.results56, go_sem, *]) rfl ⟨rfl, ?_⟩
  exact (G1.out.setCell (by simp; omega) _).setCell (by simp; omega) _
end Go.Proofs.Ytljmbdjojogbjaa
