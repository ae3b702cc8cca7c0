/- WALKS: verniers and screws: are they valid; how they come from the laws' values. -/
import Derived.Test.YtjcebojmfoppaaaW
import Derived.Test.YtjcebojmfoppaaaK
import Derived.Test.YtjcebojmfoppaaaB1
namespace Go.Proofs.Ytjcebojmfoppaaa
open Go.RowKit Go.Sort

set_option maxRecDepth 20000 in
set_option maxHeartbeats 400000 in
theorem toVernier_any (n : Int) (b : Bool) (w : World) :
    Calls Try.prog 11 #[vn n b] w fun e w' => e = .returned (vn n b) ∧ Gr w w' := by
  go_enter Try.func11, Try.ntmps11
  go_wp2
  refine bodyPost_ret (v := vn n b) (by simp [results, Try.results11, go_sem, *]) rfl ⟨rfl, ?_⟩
  exact ((((Gr.refl _)).al _).al _).al _
set_option maxRecDepth 20000 in
set_option maxHeartbeats 400000 in
theorem toSpindle_any (t p q : Int) (w : World) :
    Calls Try.prog 17 #[spi t p q] w fun e w' => e = .returned (spi t p q) ∧ Gr w w' := by
  go_enter Try.func17, Try.ntmps17
  go_wp2_with fail
  refine (toFrac_any _ _ _).mono ?_
  rintro e w1 ⟨rfl, hg1⟩
  obtain ⟨x1_0, x1_1, x1_2, hz1, g1⟩ := alloc3 hg1
  obtain ⟨_, _, _⟩ := cells3 x1_0
  have _ := fz x1_0
  have _ := ltb x1_0
  obtain ⟨_, _, _⟩ := cells3 x1_1
  have _ := fz x1_1
  have _ := ltb x1_1
  obtain ⟨_, _, _⟩ := cells3 x1_2
  have _ := fz x1_2
  have _ := ltb x1_2
  have X1_0 := hid x1_0; clear x1_0
  have X1_1 := hid x1_1; clear x1_1
  have X1_2 := hid x1_2; clear x1_2
  have G1 := hid (g1)
  clear hg1 g1
  go_wp2
  refine bodyPost_ret (v := spi t p q) (by simp [results, Try.results17, go_sem, *]) rfl ⟨rfl, ?_⟩
  exact (((((G1.out).setCell (by simp <;> omega) _).setCell (by simp <;> omega) _).setCell (by simp <;> omega) _).setCell (by simp <;> omega) _).setCell (by simp <;> omega) _
set_option maxRecDepth 20000 in
set_option maxHeartbeats 400000 in
theorem toScrew_any (a b n c d : Int) (w : World) :
    Calls Try.prog 14 #[sc a b n c d] w fun e w' => e = .returned (sc a b n c d) ∧ Gr w w' := by
  go_enter Try.func14, Try.ntmps14
  go_wp2_with fail
  refine (toFrac_any _ _ _).mono ?_
  rintro e w1 ⟨rfl, hg1⟩
  obtain ⟨x1_0, x1_1, x1_2, hz1, g1⟩ := alloc3 hg1
  obtain ⟨_, _, _, _, _⟩ := cells5 x1_0
  have _ := fz x1_0
  have _ := ltb x1_0
  obtain ⟨_, _, _, _, _⟩ := cells5 x1_1
  have _ := fz x1_1
  have _ := ltb x1_1
  obtain ⟨_, _, _, _, _⟩ := cells5 x1_2
  have _ := fz x1_2
  have _ := ltb x1_2
  have X1_0 := hid x1_0; clear x1_0
  have X1_1 := hid x1_1; clear x1_1
  have X1_2 := hid x1_2; clear x1_2
  have G1 := hid (g1)
  clear hg1 g1
  go_wp2_with fail
  refine (toFrac_any _ _ _).mono ?_
  rintro e w2 ⟨rfl, hg2⟩
  obtain ⟨_, _⟩ := hg2.same
  have hzs2 := hg2.size
  simp at hzs2
  have _ : w.heap.size < w2.heap.size := by omega
  have _ : w.heap.size + 1 < w2.heap.size := by omega
  have _ : w.heap.size + 1 + 1 < w2.heap.size := by omega
  have G2 := hid (((((G1.out).setCell (by simp <;> omega) _).setCell (by simp <;> omega) _).setCell (by simp <;> omega) _).trans hg2); clear hg2
  go_wp2
  refine bodyPost_ret (v := sc a b n c d) (by simp [results, Try.results14, go_sem, *]) rfl ⟨rfl, ?_⟩
  exact (((((((G2.out).setCell (by simp <;> omega) _).setCell (by simp <;> omega) _).setCell (by simp <;> omega) _).setCell (by simp <;> omega) _).setCell (by simp <;> omega) _).setCell (by simp <;> omega) _).setCell (by simp <;> omega) _
set_option maxRecDepth 20000 in
set_option maxHeartbeats 400000 in
theorem eqSpindle_any (t p q : Int) (w : World) :
    Calls Try.prog 21 #[spi t p q, spi t p q] w fun e w' => e = .returned (.bool true) ∧ Gr w w' := by
  go_enter Try.func21, Try.ntmps21
  go_wp2_with fail
  refine (eqFrac_any _ _ _).mono ?_
  rintro e w1 ⟨rfl, hg1⟩
  obtain ⟨x1_0, x1_1, hz1, g1⟩ := alloc2 hg1
  obtain ⟨_, _, _⟩ := cells3 x1_0
  have _ := fz x1_0
  have _ := ltb x1_0
  obtain ⟨_, _, _⟩ := cells3 x1_1
  have _ := fz x1_1
  have _ := ltb x1_1
  have X1_0 := hid x1_0; clear x1_0
  have X1_1 := hid x1_1; clear x1_1
  have G1 := hid (g1)
  clear hg1 g1
  go_wp2
  go_ret
  exact ⟨rfl, G1.out⟩
set_option maxRecDepth 20000 in
set_option maxHeartbeats 400000 in
theorem sVernAt (n : Int) (b : Bool) (w : World) (k : Nat) (X1 : Hid (w.heap[k]? = some (.cells #[.int .i64 n, .bool b] 25))) :
    Calls Try.prog 30 #[.pointer (some ⟨k, 0, none⟩)] w fun e w' => e = .returned (.bool (inB n 2 40)) ∧ Gr w w' := by
  go_enter Try.func30, Try.ntmps30
  obtain ⟨_, _⟩ := cells2 X1.out
  have _ := fz X1.out
  have _ := ltb X1.out
  go_wp2_with (go_at_call 46; refine (in_any _ _ _ _).mono ?_; rintro e w1 ⟨rfl, rfl⟩)
  go_ret
  exact ⟨rfl, Gr.refl _⟩
set_option maxRecDepth 20000 in
set_option maxHeartbeats 400000 in
theorem sValidVernier (n : Int) (b : Bool) (w : World) :
    Calls Try.prog 10 #[vn n b] w fun e w' => e = .returned (.bool (inB n 2 40)) ∧ Gr w w' := by
  go_enter Try.func10, Try.ntmps10
  go_wp2_with fail
  refine (sVernAt _ _ _ _ (hid (alloc1 (Gr.refl _)).1)).mono ?_
  rintro e w1 ⟨rfl, hg1⟩
  obtain ⟨x1_0, hz1, g1⟩ := alloc1 hg1
  obtain ⟨_, _⟩ := cells2 x1_0
  have _ := fz x1_0
  have _ := ltb x1_0
  have X1_0 := hid x1_0; clear x1_0
  have G1 := hid (g1)
  clear hg1 g1
  go_wp2
  go_ret
  exact ⟨rfl, G1.out⟩
set_option maxRecDepth 20000 in
set_option maxHeartbeats 400000 in
theorem iValidVernier_n1 (n : Int) (b : Bool) (w : World) (h1 : decide (2 ≤ n) = false) :
    Calls Try.prog 12 #[vn n b] w fun e w' => e = .returned (.bool (false)) ∧ Gr w w' := by
  go_enter Try.func12, Try.ntmps12
  go_wp2
  go_ret
  exact ⟨rfl, ((Gr.refl _)).al _⟩
set_option maxRecDepth 20000 in
set_option maxHeartbeats 400000 in
theorem iValidVernier_y (n : Int) (b : Bool) (w : World) (h1 : decide (2 ≤ n) = true) :
    Calls Try.prog 12 #[vn n b] w fun e w' => e = .returned (.bool (decide (n ≤ 40))) ∧ Gr w w' := by
  go_enter Try.func12, Try.ntmps12
  go_wp2
  go_ret
  exact ⟨rfl, ((Gr.refl _)).al _⟩
theorem iValidVernier (n : Int) (b : Bool) (w : World) :
    Calls Try.prog 12 #[vn n b] w fun e w' => e = .returned (.bool (inB n 2 40)) ∧ Gr w w' := by
  unfold inB
  cases h1 : decide (2 ≤ n) with
  | false => exact iValidVernier_n1 n b w h1
  | true => exact iValidVernier_y n b w h1
theorem bothValidVernier (n : Int) (b : Bool) : ∃ R : Bool, (∀ w, Calls Try.prog 10 #[vn n b] w fun e w' => e = .returned (.bool R) ∧ Gr w w') ∧ (∀ w, Calls Try.prog 12 #[vn n b] w fun e w' => e = .returned (.bool R) ∧ Gr w w') :=
  ⟨_, sValidVernier n b, iValidVernier n b⟩
/-! a length is at most so long -/
def withinB (a b most : Int) : Bool := okB a b && (decide (0 < a) && decide (a ≤ most * b))
theorem cmp_whole {a b m : Int} : decide (cmpI a b m 1 ≤ 0) = decide (a ≤ m * b) := by
  unfold cmpI
  rw [Int.mul_one]
  by_cases h : a ≤ m * b
  · simp only [h, decide_true, decide_eq_true_eq]
    split
    · omega
    · rw [if_neg (by omega)]; omega
  · simp only [h, decide_false, decide_eq_false_iff_not]
    rw [if_neg (by omega), if_pos (by omega)]; omega
set_option maxRecDepth 20000 in
set_option maxHeartbeats 400000 in
theorem swithin_n1 (a b m : Int) (w : World) (hm : okB m 1 = true) (h1 : okB a b = false) :
    Calls Try.prog 53 #[fr a b, .int .i64 m] w fun e w' => e = .returned (.bool (false)) ∧ Gr w w' := by
  have hm := hid hm
  have Hh1 := hid h1; clear h1
  go_enter Try.func53, Try.ntmps53
  go_wp2_with fail
  refine wp_reg0 14 (by kernel_rfl) (by kernel_rfl) ?_
  apply Exists.intro
  refine ⟨fun wb hb => ?_, ?_⟩
  · obtain ⟨y0, _, _⟩ := alloc1 (Gr.refl _)
    obtain ⟨_, _⟩ := hb.at2 y0
    clear y0
    have h1 := Hh1.out
    simp only [headOps, List.contains, List.elem, reduceIte, Bool.false_eq_true]
    repeat (first | go_big_quiet_step (first | (go_at_call 45; exact Calls.of_gr (sok_any _ _ _))) | quiet_step (fail))
    exact wpQuiet_nil rfl
  intro w1 hg1
  obtain ⟨x1_0, hz1, g1⟩ := alloc1 hg1
  obtain ⟨_, _⟩ := cells2 x1_0
  have _ := fz x1_0
  have _ := ltb x1_0
  have X1_0 := hid x1_0; clear x1_0
  have G1 := hid (g1)
  clear hg1 g1
  go_wp2
  go_ret
  exact ⟨rfl, G1.out⟩
set_option maxRecDepth 20000 in
set_option maxHeartbeats 400000 in
theorem swithin_n2 (a b m : Int) (w : World) (hm : okB m 1 = true) (h1 : okB a b = true) (h2 : decide (0 < a) = false) :
    Calls Try.prog 53 #[fr a b, .int .i64 m] w fun e w' => e = .returned (.bool (false)) ∧ Gr w w' := by
  have hm := hid hm
  have Hh1 := hid h1; clear h1
  have Hh2 := hid h2; clear h2
  go_enter Try.func53, Try.ntmps53
  go_wp2_with fail
  refine wp_reg0 14 (by kernel_rfl) (by kernel_rfl) ?_
  apply Exists.intro
  refine ⟨fun wb hb => ?_, ?_⟩
  · obtain ⟨y0, _, _⟩ := alloc1 (Gr.refl _)
    obtain ⟨_, _⟩ := hb.at2 y0
    clear y0
    have h1 := Hh1.out
    have h2 := Hh2.out
    simp only [headOps, List.contains, List.elem, reduceIte, Bool.false_eq_true]
    repeat (first | go_big_quiet_step (first | (go_at_call 45; exact Calls.of_gr (sok_any _ _ _))) | quiet_step (fail))
    exact wpQuiet_nil rfl
  intro w1 hg1
  obtain ⟨x1_0, hz1, g1⟩ := alloc1 hg1
  obtain ⟨_, _⟩ := cells2 x1_0
  have _ := fz x1_0
  have _ := ltb x1_0
  have X1_0 := hid x1_0; clear x1_0
  have G1 := hid (g1)
  clear hg1 g1
  go_wp2
  go_ret
  exact ⟨rfl, G1.out⟩
set_option maxRecDepth 20000 in
set_option maxHeartbeats 400000 in
theorem swithin_y (a b m : Int) (w : World) (hm : okB m 1 = true) (h1 : okB a b = true) (h2 : decide (0 < a) = true) :
    Calls Try.prog 53 #[fr a b, .int .i64 m] w fun e w' => e = .returned (.bool (decide (cmpI a b m 1 ≤ 0))) ∧ Gr w w' := by
  have hm := hid hm
  have Hh1 := hid h1; clear h1
  have Hh2 := hid h2; clear h2
  go_enter Try.func53, Try.ntmps53
  go_wp2_with fail
  refine wp_reg0 14 (by kernel_rfl) (by kernel_rfl) ?_
  apply Exists.intro
  refine ⟨fun wb hb => ?_, ?_⟩
  · obtain ⟨y0, _, _⟩ := alloc1 (Gr.refl _)
    obtain ⟨_, _⟩ := hb.at2 y0
    clear y0
    have h1 := Hh1.out
    have h2 := Hh2.out
    simp only [headOps, List.contains, List.elem, reduceIte, Bool.false_eq_true]
    repeat (first | go_big_quiet_step (first | (go_at_call 45; exact Calls.of_gr (sok_any _ _ _)) | (go_at_call 64; exact Calls.of_gr (swhole1 _ _)) | (go_at_call 47; exact Calls.of_gr (scmp_ok _ _ _ _ _ Hh1.out hm.out))) | quiet_step (fail))
    exact wpQuiet_nil rfl
  intro w1 hg1
  obtain ⟨x1_0, hz1, g1⟩ := alloc1 hg1
  obtain ⟨_, _⟩ := cells2 x1_0
  have _ := fz x1_0
  have _ := ltb x1_0
  have X1_0 := hid x1_0; clear x1_0
  have G1 := hid (g1)
  clear hg1 g1
  go_wp2
  go_ret
  exact ⟨rfl, G1.out⟩
theorem swithin (a b m : Int) (w : World) (hm : okB m 1 = true) :
    Calls Try.prog 53 #[fr a b, .int .i64 m] w fun e w' => e = .returned (.bool (withinB a b m)) ∧ Gr w w' := by
  unfold withinB
  cases h1 : okB a b with
  | false => exact swithin_n1 a b m w hm h1
  | true =>
    cases h2 : decide (0 < a) with
    | false => exact swithin_n2 a b m w hm h1 h2
    | true => rw [← cmp_whole]; exact swithin_y a b m w hm h1 h2
set_option maxRecDepth 20000 in
set_option maxHeartbeats 400000 in
theorem iatmost_n (a b m : Int) (w : World) (h2 : decide (0 < a) = false) :
    Calls Try.prog 33 #[fr a b, .int .i64 m] w fun e w' => e = .returned (.bool (false)) ∧ Gr w w' := by
  go_enter Try.func33, Try.ntmps33
  go_wp2
  go_ret
  exact ⟨rfl, ((Gr.refl _)).al _⟩
set_option maxRecDepth 20000 in
set_option maxHeartbeats 400000 in
theorem iatmost_y (a b m : Int) (w : World) (q0 : -4000000000000000000 ≤ m * b) (q1 : m * b ≤ 4000000000000000000) (h2 : decide (0 < a) = true) :
    Calls Try.prog 33 #[fr a b, .int .i64 m] w fun e w' => e = .returned (.bool (decide (a ≤ m * b))) ∧ Gr w w' := by
  go_enter Try.func33, Try.ntmps33
  go_wp2
  go_ret
  exact ⟨rfl, ((Gr.refl _)).al _⟩
theorem iatmost (a b m : Int) (w : World) (q0 : -4000000000000000000 ≤ m * b) (q1 : m * b ≤ 4000000000000000000) :
    Calls Try.prog 33 #[fr a b, .int .i64 m] w fun e w' => e = .returned (.bool (decide (0 < a) && decide (a ≤ m * b))) ∧ Gr w w' := by
  cases h2 : decide (0 < a) with
  | false => exact iatmost_n a b m w h2
  | true => exact iatmost_y a b m w q0 q1 h2
/-! a screw -/
theorem within_ok {a b m : Int} (h : withinB a b m = true) : okB a b = true := by
  unfold withinB at h; simp at h; exact h.1
def scB (a b n c d : Int) : Bool := withinB a b 100 && (inB n 2 100 && (okB c d && (decide (0 ≤ c) && decide (cmpI c d a b ≤ 0))))
set_option maxRecDepth 20000 in
set_option maxHeartbeats 400000 in
theorem sscrew_0 (a b n c d : Int) (w : World) (k : Nat) (X1 : Hid (w.heap[k]? = some (.cells #[.int .i64 a, .int .i64 b, .int .i64 n, .int .i64 c, .int .i64 d] 35))) (h1 : withinB a b 100 = false) :
    Calls Try.prog 31 #[.pointer (some ⟨k, 0, none⟩)] w fun e w' => e = .returned (.bool (false)) ∧ Gr w w' := by
  have Hh1 := hid h1; clear h1
  go_enter Try.func31, Try.ntmps31
  obtain ⟨_, _, _, _, _⟩ := cells5 X1.out
  have _ := fz X1.out
  have _ := ltb X1.out
  go_wp2_with fail
  refine wp_reg0 39 (by kernel_rfl) (by kernel_rfl) ?_
  apply Exists.intro
  refine ⟨fun wb hb => ?_, ?_⟩
  · obtain ⟨_, _, _, _, _⟩ := hb.at5 X1.out
    have h1 := Hh1.out
    simp only [headOps, List.contains, List.elem, reduceIte, Bool.false_eq_true]
    repeat (first | go_big_quiet_step (first | (go_at_call 53; exact Calls.of_gr (swithin _ _ _ _ (by decide)))) | quiet_step (fail))
    exact wpQuiet_nil rfl
  intro w1 hg1
  have x1_1 := hg1.keep X1.out
  obtain ⟨_, _, _, _, _⟩ := cells5 x1_1
  have _ := fz x1_1
  have _ := ltb x1_1
  have X1_1 := hid x1_1; clear x1_1
  have G1 := hid (hg1)
  clear hg1
  go_wp2
  go_ret
  exact ⟨rfl, G1.out⟩
set_option maxRecDepth 20000 in
set_option maxHeartbeats 400000 in
theorem sscrew_1 (a b n c d : Int) (w : World) (k : Nat) (X1 : Hid (w.heap[k]? = some (.cells #[.int .i64 a, .int .i64 b, .int .i64 n, .int .i64 c, .int .i64 d] 35))) (h1 : withinB a b 100 = true) (h2 : inB n 2 100 = false) :
    Calls Try.prog 31 #[.pointer (some ⟨k, 0, none⟩)] w fun e w' => e = .returned (.bool (false)) ∧ Gr w w' := by
  have Hh1 := hid h1; clear h1
  have Hh2 := hid h2; clear h2
  go_enter Try.func31, Try.ntmps31
  obtain ⟨_, _, _, _, _⟩ := cells5 X1.out
  have _ := fz X1.out
  have _ := ltb X1.out
  go_wp2_with fail
  refine wp_reg0 39 (by kernel_rfl) (by kernel_rfl) ?_
  apply Exists.intro
  refine ⟨fun wb hb => ?_, ?_⟩
  · obtain ⟨_, _, _, _, _⟩ := hb.at5 X1.out
    have h1 := Hh1.out
    have h2 := Hh2.out
    simp only [headOps, List.contains, List.elem, reduceIte, Bool.false_eq_true]
    repeat (first | go_big_quiet_step (first | (go_at_call 53; exact Calls.of_gr (swithin _ _ _ _ (by decide))) | (go_at_call 46; exact Calls.of_same (in_any _ _ _ _))) | quiet_step (fail))
    exact wpQuiet_nil rfl
  intro w1 hg1
  have x1_1 := hg1.keep X1.out
  obtain ⟨_, _, _, _, _⟩ := cells5 x1_1
  have _ := fz x1_1
  have _ := ltb x1_1
  have X1_1 := hid x1_1; clear x1_1
  have G1 := hid (hg1)
  clear hg1
  go_wp2
  go_ret
  exact ⟨rfl, G1.out⟩
set_option maxRecDepth 20000 in
set_option maxHeartbeats 400000 in
theorem sscrew_2 (a b n c d : Int) (w : World) (k : Nat) (X1 : Hid (w.heap[k]? = some (.cells #[.int .i64 a, .int .i64 b, .int .i64 n, .int .i64 c, .int .i64 d] 35))) (h1 : withinB a b 100 = true) (h2 : inB n 2 100 = true) (h3 : okB c d = false) :
    Calls Try.prog 31 #[.pointer (some ⟨k, 0, none⟩)] w fun e w' => e = .returned (.bool (false)) ∧ Gr w w' := by
  have Hh1 := hid h1; clear h1
  have Hh2 := hid h2; clear h2
  have Hh3 := hid h3; clear h3
  go_enter Try.func31, Try.ntmps31
  obtain ⟨_, _, _, _, _⟩ := cells5 X1.out
  have _ := fz X1.out
  have _ := ltb X1.out
  go_wp2_with fail
  refine wp_reg0 39 (by kernel_rfl) (by kernel_rfl) ?_
  apply Exists.intro
  refine ⟨fun wb hb => ?_, ?_⟩
  · obtain ⟨_, _, _, _, _⟩ := hb.at5 X1.out
    have h1 := Hh1.out
    have h2 := Hh2.out
    have h3 := Hh3.out
    simp only [headOps, List.contains, List.elem, reduceIte, Bool.false_eq_true]
    repeat (first | go_big_quiet_step (first | (go_at_call 53; exact Calls.of_gr (swithin _ _ _ _ (by decide))) | (go_at_call 46; exact Calls.of_same (in_any _ _ _ _)) | (go_at_call 45; exact Calls.of_gr (sok_any _ _ _))) | quiet_step (fail))
    exact wpQuiet_nil rfl
  intro w1 hg1
  have x1_1 := hg1.keep X1.out
  obtain ⟨_, _, _, _, _⟩ := cells5 x1_1
  have _ := fz x1_1
  have _ := ltb x1_1
  have X1_1 := hid x1_1; clear x1_1
  have G1 := hid (hg1)
  clear hg1
  go_wp2
  go_ret
  exact ⟨rfl, G1.out⟩
set_option maxRecDepth 20000 in
set_option maxHeartbeats 400000 in
theorem sscrew_3 (a b n c d : Int) (w : World) (k : Nat) (X1 : Hid (w.heap[k]? = some (.cells #[.int .i64 a, .int .i64 b, .int .i64 n, .int .i64 c, .int .i64 d] 35))) (h1 : withinB a b 100 = true) (h2 : inB n 2 100 = true) (h3 : okB c d = true) (h4 : decide (0 ≤ c) = false) :
    Calls Try.prog 31 #[.pointer (some ⟨k, 0, none⟩)] w fun e w' => e = .returned (.bool (false)) ∧ Gr w w' := by
  have Hh1 := hid h1; clear h1
  have Hh2 := hid h2; clear h2
  have Hh3 := hid h3; clear h3
  have Hh4 := hid h4; clear h4
  go_enter Try.func31, Try.ntmps31
  obtain ⟨_, _, _, _, _⟩ := cells5 X1.out
  have _ := fz X1.out
  have _ := ltb X1.out
  go_wp2_with fail
  refine wp_reg0 39 (by kernel_rfl) (by kernel_rfl) ?_
  apply Exists.intro
  refine ⟨fun wb hb => ?_, ?_⟩
  · obtain ⟨_, _, _, _, _⟩ := hb.at5 X1.out
    have h1 := Hh1.out
    have h2 := Hh2.out
    have h3 := Hh3.out
    have h4 := Hh4.out
    simp only [headOps, List.contains, List.elem, reduceIte, Bool.false_eq_true]
    repeat (first | go_big_quiet_step (first | (go_at_call 53; exact Calls.of_gr (swithin _ _ _ _ (by decide))) | (go_at_call 46; exact Calls.of_same (in_any _ _ _ _)) | (go_at_call 45; exact Calls.of_gr (sok_any _ _ _))) | quiet_step (fail))
    exact wpQuiet_nil rfl
  intro w1 hg1
  have x1_1 := hg1.keep X1.out
  obtain ⟨_, _, _, _, _⟩ := cells5 x1_1
  have _ := fz x1_1
  have _ := ltb x1_1
  have X1_1 := hid x1_1; clear x1_1
  have G1 := hid (hg1)
  clear hg1
  go_wp2
  go_ret
  exact ⟨rfl, G1.out⟩
set_option maxRecDepth 20000 in
set_option maxHeartbeats 400000 in
theorem sscrew_4 (a b n c d : Int) (w : World) (k : Nat) (X1 : Hid (w.heap[k]? = some (.cells #[.int .i64 a, .int .i64 b, .int .i64 n, .int .i64 c, .int .i64 d] 35))) (h1 : withinB a b 100 = true) (h2 : inB n 2 100 = true) (h3 : okB c d = true) (h4 : decide (0 ≤ c) = true) :
    Calls Try.prog 31 #[.pointer (some ⟨k, 0, none⟩)] w fun e w' => e = .returned (.bool (decide (cmpI c d a b ≤ 0))) ∧ Gr w w' := by
  have hab := hid (within_ok h1)
  have Hh1 := hid h1; clear h1
  have Hh2 := hid h2; clear h2
  have Hh3 := hid h3; clear h3
  have Hh4 := hid h4; clear h4
  go_enter Try.func31, Try.ntmps31
  obtain ⟨_, _, _, _, _⟩ := cells5 X1.out
  have _ := fz X1.out
  have _ := ltb X1.out
  go_wp2_with fail
  refine wp_reg0 39 (by kernel_rfl) (by kernel_rfl) ?_
  apply Exists.intro
  refine ⟨fun wb hb => ?_, ?_⟩
  · obtain ⟨_, _, _, _, _⟩ := hb.at5 X1.out
    have h1 := Hh1.out
    have h2 := Hh2.out
    have h3 := Hh3.out
    have h4 := Hh4.out
    simp only [headOps, List.contains, List.elem, reduceIte, Bool.false_eq_true]
    repeat (first | go_big_quiet_step (first | (go_at_call 53; exact Calls.of_gr (swithin _ _ _ _ (by decide))) | (go_at_call 46; exact Calls.of_same (in_any _ _ _ _)) | (go_at_call 45; exact Calls.of_gr (sok_any _ _ _)) | (go_at_call 47; exact Calls.of_gr (scmp_ok _ _ _ _ _ Hh3.out hab.out))) | quiet_step (fail))
    exact wpQuiet_nil rfl
  intro w1 hg1
  have x1_1 := hg1.keep X1.out
  obtain ⟨_, _, _, _, _⟩ := cells5 x1_1
  have _ := fz x1_1
  have _ := ltb x1_1
  have X1_1 := hid x1_1; clear x1_1
  have G1 := hid (hg1)
  clear hg1
  go_wp2
  go_ret
  exact ⟨rfl, G1.out⟩
theorem sscrew (a b n c d : Int) (w : World) (k : Nat) (X1 : Hid (w.heap[k]? = some (.cells #[.int .i64 a, .int .i64 b, .int .i64 n, .int .i64 c, .int .i64 d] 35))) :
    Calls Try.prog 31 #[.pointer (some ⟨k, 0, none⟩)] w fun e w' => e = .returned (.bool (scB a b n c d)) ∧ Gr w w' := by
  unfold scB
  cases h1 : withinB a b 100 with
  | false => exact sscrew_0 a b n c d w k X1 h1
  | true =>
    cases h2 : inB n 2 100 with
    | false => exact sscrew_1 a b n c d w k X1 h1 h2
    | true =>
      cases h3 : okB c d with
      | false => exact sscrew_2 a b n c d w k X1 h1 h2 h3
      | true =>
        cases h4 : decide (0 ≤ c) with
        | false => exact sscrew_3 a b n c d w k X1 h1 h2 h3 h4
        | true => exact sscrew_4 a b n c d w k X1 h1 h2 h3 h4
set_option maxRecDepth 20000 in
set_option maxHeartbeats 400000 in
theorem sValidScrew (a b n c d : Int) (w : World) :
    Calls Try.prog 13 #[sc a b n c d] w fun e w' => e = .returned (.bool (scB a b n c d)) ∧ Gr w w' := by
  go_enter Try.func13, Try.ntmps13
  go_wp2_with fail
  refine (sscrew _ _ _ _ _ _ _ (hid (alloc1 (Gr.refl _)).1)).mono ?_
  rintro e w1 ⟨rfl, hg1⟩
  obtain ⟨x1_0, hz1, g1⟩ := alloc1 hg1
  obtain ⟨_, _, _, _, _⟩ := cells5 x1_0
  have _ := fz x1_0
  have _ := ltb x1_0
  have X1_0 := hid x1_0; clear x1_0
  have G1 := hid (g1)
  clear hg1 g1
  go_wp2
  go_ret
  exact ⟨rfl, G1.out⟩
theorem iatm_t (a b : Int) (w : World) (h1 : okB a b = true) (h : (decide (0 < a) && decide (a ≤ 100 * b)) = true) :
    Calls Try.prog 33 #[fr a b, .int .i64 100] w fun e w' => e = .returned (.bool true) ∧ Gr w w' := by
  obtain ⟨b1, b2, _, _⟩ := okB_bd h1
  exact (iatmost a b 100 w (by omega) (by omega)).mono fun e w' ⟨he, hg⟩ => ⟨by rw [he, h], hg⟩
theorem iatm_f (a b : Int) (w : World) (h1 : okB a b = true) (h : (decide (0 < a) && decide (a ≤ 100 * b)) = false) :
    Calls Try.prog 33 #[fr a b, .int .i64 100] w fun e w' => e = .returned (.bool false) ∧ Gr w w' := by
  obtain ⟨b1, b2, _, _⟩ := okB_bd h1
  exact (iatmost a b 100 w (by omega) (by omega)).mono fun e w' ⟨he, hg⟩ => ⟨by rw [he, h], hg⟩
set_option maxRecDepth 20000 in
set_option maxHeartbeats 400000 in
theorem iscrew_g0 (a b n c d : Int) (w : World) (h1 : okB a b = false) :
    Calls Try.prog 15 #[sc a b n c d] w fun e w' => e = .returned (.bool (false)) ∧ Gr w w' := by
  have h1 := hid h1
  go_enter Try.func15, Try.ntmps15
  go_wp2_with fail
  refine (iok_f _ _ _ h1.out).mono ?_
  rintro e w1 ⟨rfl, hg1⟩
  obtain ⟨x1_0, hz1, g1⟩ := alloc1 hg1
  obtain ⟨_, _, _, _, _⟩ := cells5 x1_0
  have _ := fz x1_0
  have _ := ltb x1_0
  have X1_0 := hid x1_0; clear x1_0
  have G1 := hid (g1)
  clear hg1 g1
  go_wp2
  go_ret
  exact ⟨rfl, G1.out⟩
set_option maxRecDepth 20000 in
set_option maxHeartbeats 400000 in
theorem iscrew_g1 (a b n c d : Int) (w : World) (h1 : okB a b = true) (h2 : (decide (0 < a) && decide (a ≤ 100 * b)) = false) :
    Calls Try.prog 15 #[sc a b n c d] w fun e w' => e = .returned (.bool (false)) ∧ Gr w w' := by
  have h1 := hid h1
  have h2 := hid h2
  go_enter Try.func15, Try.ntmps15
  go_wp2_with fail
  refine (iok_t _ _ _ h1.out).mono ?_
  rintro e w1 ⟨rfl, hg1⟩
  obtain ⟨x1_0, hz1, g1⟩ := alloc1 hg1
  obtain ⟨_, _, _, _, _⟩ := cells5 x1_0
  have _ := fz x1_0
  have _ := ltb x1_0
  have X1_0 := hid x1_0; clear x1_0
  have G1 := hid (g1)
  clear hg1 g1
  go_wp2_with fail
  refine (iatm_f _ _ _ h1.out h2.out).mono ?_
  rintro e w2 ⟨rfl, hg2⟩
  have x2_1 := hg2.keep X1_0.out
  obtain ⟨_, _, _, _, _⟩ := cells5 x2_1
  have _ := fz x2_1
  have _ := ltb x2_1
  have X2_1 := hid x2_1; clear x2_1
  have G2 := hid (G1.out.trans hg2)
  clear hg2
  go_wp2
  go_ret
  exact ⟨rfl, G2.out⟩
set_option maxRecDepth 20000 in
set_option maxHeartbeats 400000 in
theorem iscrew_g2 (a b n c d : Int) (w : World) (h1 : okB a b = true) (h2 : (decide (0 < a) && decide (a ≤ 100 * b)) = true) (g1 : n < 2) :
    Calls Try.prog 15 #[sc a b n c d] w fun e w' => e = .returned (.bool (false)) ∧ Gr w w' := by
  have h1 := hid h1
  have h2 := hid h2
  go_enter Try.func15, Try.ntmps15
  go_wp2_with fail
  refine (iok_t _ _ _ h1.out).mono ?_
  rintro e w1 ⟨rfl, hg1⟩
  obtain ⟨x1_0, hz1, g1⟩ := alloc1 hg1
  obtain ⟨_, _, _, _, _⟩ := cells5 x1_0
  have _ := fz x1_0
  have _ := ltb x1_0
  have X1_0 := hid x1_0; clear x1_0
  have G1 := hid (g1)
  clear hg1 g1
  go_wp2_with fail
  refine (iatm_t _ _ _ h1.out h2.out).mono ?_
  rintro e w2 ⟨rfl, hg2⟩
  have x2_1 := hg2.keep X1_0.out
  obtain ⟨_, _, _, _, _⟩ := cells5 x2_1
  have _ := fz x2_1
  have _ := ltb x2_1
  have X2_1 := hid x2_1; clear x2_1
  have G2 := hid (G1.out.trans hg2)
  clear hg2
  go_wp2
  go_ret
  exact ⟨rfl, G2.out⟩
set_option maxRecDepth 20000 in
set_option maxHeartbeats 400000 in
theorem iscrew_g3 (a b n c d : Int) (w : World) (h1 : okB a b = true) (h2 : (decide (0 < a) && decide (a ≤ 100 * b)) = true) (g1 : ¬ n < 2) (g2 : 100 < n) :
    Calls Try.prog 15 #[sc a b n c d] w fun e w' => e = .returned (.bool (false)) ∧ Gr w w' := by
  have h1 := hid h1
  have h2 := hid h2
  go_enter Try.func15, Try.ntmps15
  go_wp2_with fail
  refine (iok_t _ _ _ h1.out).mono ?_
  rintro e w1 ⟨rfl, hg1⟩
  obtain ⟨x1_0, hz1, g1⟩ := alloc1 hg1
  obtain ⟨_, _, _, _, _⟩ := cells5 x1_0
  have _ := fz x1_0
  have _ := ltb x1_0
  have X1_0 := hid x1_0; clear x1_0
  have G1 := hid (g1)
  clear hg1 g1
  go_wp2_with fail
  refine (iatm_t _ _ _ h1.out h2.out).mono ?_
  rintro e w2 ⟨rfl, hg2⟩
  have x2_1 := hg2.keep X1_0.out
  obtain ⟨_, _, _, _, _⟩ := cells5 x2_1
  have _ := fz x2_1
  have _ := ltb x2_1
  have X2_1 := hid x2_1; clear x2_1
  have G2 := hid (G1.out.trans hg2)
  clear hg2
  go_wp2
  go_ret
  exact ⟨rfl, G2.out⟩
set_option maxRecDepth 20000 in
set_option maxHeartbeats 400000 in
theorem iscrew_g4 (a b n c d : Int) (w : World) (h1 : okB a b = true) (h2 : (decide (0 < a) && decide (a ≤ 100 * b)) = true) (g1 : ¬ n < 2) (g2 : ¬ 100 < n) (h3 : okB c d = false) :
    Calls Try.prog 15 #[sc a b n c d] w fun e w' => e = .returned (.bool (false)) ∧ Gr w w' := by
  have h1 := hid h1
  have h2 := hid h2
  have h3 := hid h3
  go_enter Try.func15, Try.ntmps15
  go_wp2_with fail
  refine (iok_t _ _ _ h1.out).mono ?_
  rintro e w1 ⟨rfl, hg1⟩
  obtain ⟨x1_0, hz1, g1⟩ := alloc1 hg1
  obtain ⟨_, _, _, _, _⟩ := cells5 x1_0
  have _ := fz x1_0
  have _ := ltb x1_0
  have X1_0 := hid x1_0; clear x1_0
  have G1 := hid (g1)
  clear hg1 g1
  go_wp2_with fail
  refine (iatm_t _ _ _ h1.out h2.out).mono ?_
  rintro e w2 ⟨rfl, hg2⟩
  have x2_1 := hg2.keep X1_0.out
  obtain ⟨_, _, _, _, _⟩ := cells5 x2_1
  have _ := fz x2_1
  have _ := ltb x2_1
  have X2_1 := hid x2_1; clear x2_1
  have G2 := hid (G1.out.trans hg2)
  clear hg2
  go_wp2_with fail
  refine (iok_f _ _ _ h3.out).mono ?_
  rintro e w3 ⟨rfl, hg3⟩
  have x3_1 := hg3.keep X2_1.out
  obtain ⟨_, _, _, _, _⟩ := cells5 x3_1
  have _ := fz x3_1
  have _ := ltb x3_1
  have X3_1 := hid x3_1; clear x3_1
  have G3 := hid (G2.out.trans hg3)
  clear hg3
  go_wp2
  go_ret
  exact ⟨rfl, G3.out⟩
set_option maxRecDepth 20000 in
set_option maxHeartbeats 400000 in
theorem iscrew_g5 (a b n c d : Int) (w : World) (h1 : okB a b = true) (h2 : (decide (0 < a) && decide (a ≤ 100 * b)) = true) (g1 : ¬ n < 2) (g2 : ¬ 100 < n) (h3 : okB c d = true) (h4 : decide (0 ≤ c) = false) :
    Calls Try.prog 15 #[sc a b n c d] w fun e w' => e = .returned (.bool (false)) ∧ Gr w w' := by
  have h1 := hid h1
  have h2 := hid h2
  have h3 := hid h3
  go_enter Try.func15, Try.ntmps15
  go_wp2_with fail
  refine (iok_t _ _ _ h1.out).mono ?_
  rintro e w1 ⟨rfl, hg1⟩
  obtain ⟨x1_0, hz1, g1⟩ := alloc1 hg1
  obtain ⟨_, _, _, _, _⟩ := cells5 x1_0
  have _ := fz x1_0
  have _ := ltb x1_0
  have X1_0 := hid x1_0; clear x1_0
  have G1 := hid (g1)
  clear hg1 g1
  go_wp2_with fail
  refine (iatm_t _ _ _ h1.out h2.out).mono ?_
  rintro e w2 ⟨rfl, hg2⟩
  have x2_1 := hg2.keep X1_0.out
  obtain ⟨_, _, _, _, _⟩ := cells5 x2_1
  have _ := fz x2_1
  have _ := ltb x2_1
  have X2_1 := hid x2_1; clear x2_1
  have G2 := hid (G1.out.trans hg2)
  clear hg2
  go_wp2_with fail
  refine (iok_t _ _ _ h3.out).mono ?_
  rintro e w3 ⟨rfl, hg3⟩
  have x3_1 := hg3.keep X2_1.out
  obtain ⟨_, _, _, _, _⟩ := cells5 x3_1
  have _ := fz x3_1
  have _ := ltb x3_1
  have X3_1 := hid x3_1; clear x3_1
  have G3 := hid (G2.out.trans hg3)
  clear hg3
  go_wp2
  go_ret
  exact ⟨rfl, G3.out⟩
set_option maxRecDepth 20000 in
set_option maxHeartbeats 400000 in
theorem iscrew_g6 (a b n c d : Int) (w : World) (h1 : okB a b = true) (h2 : (decide (0 < a) && decide (a ≤ 100 * b)) = true) (g1 : ¬ n < 2) (g2 : ¬ 100 < n) (h3 : okB c d = true) (h4 : decide (0 ≤ c) = true) :
    Calls Try.prog 15 #[sc a b n c d] w fun e w' => e = .returned (.bool (decide (cmpI c d a b ≤ 0))) ∧ Gr w w' := by
  have h1 := hid h1
  have h2 := hid h2
  have h3 := hid h3
  go_enter Try.func15, Try.ntmps15
  go_wp2_with fail
  refine (iok_t _ _ _ h1.out).mono ?_
  rintro e w1 ⟨rfl, hg1⟩
  obtain ⟨x1_0, hz1, g1⟩ := alloc1 hg1
  obtain ⟨_, _, _, _, _⟩ := cells5 x1_0
  have _ := fz x1_0
  have _ := ltb x1_0
  have X1_0 := hid x1_0; clear x1_0
  have G1 := hid (g1)
  clear hg1 g1
  go_wp2_with fail
  refine (iatm_t _ _ _ h1.out h2.out).mono ?_
  rintro e w2 ⟨rfl, hg2⟩
  have x2_1 := hg2.keep X1_0.out
  obtain ⟨_, _, _, _, _⟩ := cells5 x2_1
  have _ := fz x2_1
  have _ := ltb x2_1
  have X2_1 := hid x2_1; clear x2_1
  have G2 := hid (G1.out.trans hg2)
  clear hg2
  go_wp2_with fail
  refine (iok_t _ _ _ h3.out).mono ?_
  rintro e w3 ⟨rfl, hg3⟩
  have x3_1 := hg3.keep X2_1.out
  obtain ⟨_, _, _, _, _⟩ := cells5 x3_1
  have _ := fz x3_1
  have _ := ltb x3_1
  have X3_1 := hid x3_1; clear x3_1
  have G3 := hid (G2.out.trans hg3)
  clear hg3
  go_wp2_with fail
  refine (iord _ _ _ _ _ h3.out h1.out).mono ?_
  rintro e w4 ⟨rfl, hg4⟩
  have x4_1 := hg4.keep X3_1.out
  obtain ⟨_, _, _, _, _⟩ := cells5 x4_1
  have _ := fz x4_1
  have _ := ltb x4_1
  have X4_1 := hid x4_1; clear x4_1
  have G4 := hid (G3.out.trans hg4)
  clear hg4
  go_wp2
  go_ret
  exact ⟨rfl, G4.out⟩
theorem iValidScrew (a b n c d : Int) (w : World) :
    Calls Try.prog 15 #[sc a b n c d] w fun e w' => e = .returned (.bool (scB a b n c d)) ∧ Gr w w' := by
  unfold scB withinB
  cases h1 : okB a b with
  | false => exact iscrew_g0 a b n c d w h1
  | true =>
    cases h2 : (decide (0 < a) && decide (a ≤ 100 * b)) with
    | false => exact iscrew_g1 a b n c d w h1 h2
    | true =>
      by_cases g1 : n < 2
      · have e : inB n 2 100 = false := by unfold inB; simp; omega
        rw [e]; exact iscrew_g2 a b n c d w h1 h2 g1
      · by_cases g2 : 100 < n
        · have e : inB n 2 100 = false := by unfold inB; simp; omega
          rw [e]; exact iscrew_g3 a b n c d w h1 h2 g1 g2
        · have e : inB n 2 100 = true := by unfold inB; simp; omega
          rw [e]
          cases h3 : okB c d with
          | false => exact iscrew_g4 a b n c d w h1 h2 g1 g2 h3
          | true =>
            cases h4 : decide (0 ≤ c) with
            | false => exact iscrew_g5 a b n c d w h1 h2 g1 g2 h3 h4
            | true => exact iscrew_g6 a b n c d w h1 h2 g1 g2 h3 h4
theorem bothValidScrew (a b n c d : Int) : ∃ R : Bool, (∀ w, Calls Try.prog 13 #[sc a b n c d] w fun e w' => e = .returned (.bool R) ∧ Gr w w') ∧ (∀ w, Calls Try.prog 15 #[sc a b n c d] w fun e w' => e = .returned (.bool R) ∧ Gr w w') :=
  ⟨_, sValidScrew a b n c d, iValidScrew a b n c d⟩
end Go.Proofs.Ytjcebojmfoppaaa
