/- WALKS: verniers and screws: are they valid; how they come from the laws' values. -/
import Derived.Test.YtnbdafecgccojaaW
import Derived.Test.YtnbdafecgccojaaK
import Derived.Test.YtnbdafecgccojaaB1
namespace Go.Proofs.Ytnbdafecgccojaa
open Go.RowKit Go.Sort

set_option maxRecDepth 20000 in
set_option maxHeartbeats 400000 in
theorem toVernier_any (n : Int) (b : Bool) (w : World) :
    Calls Try.prog 18 #[vn n b] w fun e w' => e = .returned (vn n b) ∧ Gr w w' := by
  go_enter Try.func18, Try.ntmps18
  go_wp2
  refine bodyPost_ret (v := vn n b) (by simp [results, Try.results18, go_sem, *]) rfl ⟨rfl, ?_⟩
  exact ((((Gr.refl _)).al _).al _).al _
set_option maxRecDepth 20000 in
set_option maxHeartbeats 400000 in
theorem sVernAt (n : Int) (b : Bool) (w : World) (k : Nat) (X1 : Hid (w.heap[k]? = some (.cells #[.int .i64 n, .bool b] 39))) :
    Calls Try.prog 143 #[.pointer (some ⟨k, 0, none⟩)] w fun e w' => e = .returned (.bool (inB n 2 40)) ∧ Gr w w' := by
  go_enter Try.func143, Try.ntmps143
  obtain ⟨_, _⟩ := cells2 X1.out
  have _ := fz X1.out
  have _ := ltb X1.out
  go_wp2_with (go_at_call 81; refine (in_any _ _ _ _).mono ?_; rintro e w1 ⟨rfl, rfl⟩)
  go_ret
  exact ⟨rfl, Gr.refl _⟩
set_option maxRecDepth 20000 in
set_option maxHeartbeats 400000 in
theorem iValidVernier_n1 (n : Int) (b : Bool) (w : World) (h1 : decide (2 ≤ n) = false) :
    Calls Try.prog 73 #[vn n b] w fun e w' => e = .returned (.bool (false)) ∧ Gr w w' := by
  go_enter Try.func73, Try.ntmps73
  go_wp2
  go_ret
  exact ⟨rfl, ((Gr.refl _)).al _⟩
set_option maxRecDepth 20000 in
set_option maxHeartbeats 400000 in
theorem iValidVernier_y (n : Int) (b : Bool) (w : World) (h1 : decide (2 ≤ n) = true) :
    Calls Try.prog 73 #[vn n b] w fun e w' => e = .returned (.bool (decide (n ≤ 40))) ∧ Gr w w' := by
  go_enter Try.func73, Try.ntmps73
  go_wp2
  go_ret
  exact ⟨rfl, ((Gr.refl _)).al _⟩
theorem iValidVernier (n : Int) (b : Bool) (w : World) :
    Calls Try.prog 73 #[vn n b] w fun e w' => e = .returned (.bool (inB n 2 40)) ∧ Gr w w' := by
  unfold inB
  cases h1 : decide (2 ≤ n) with
  | false => exact iValidVernier_n1 n b w h1
  | true => exact iValidVernier_y n b w h1
/-! a length is at most so long -/
def withinB (a b most : Int) : Bool := okB a b && (decide (0 < a) && decide (a ≤ most * b))
theorem cmp_whole {a b m : Int} : decide (cmpI a b m 1 ≤ 0) = decide (a ≤ m * b) := by
  unfold cmpI
  rw [Int.mul_one]
  by_cases h : a ≤ m * b
  · simp only [h, decide_true, decide_eq_true_eq]
    split
    · omega
    · rw [if_neg (by omega)]; omega
  · simp only [h, decide_false, decide_eq_false_iff_not]
    rw [if_neg (by omega), if_pos (by omega)]; omega
set_option maxRecDepth 20000 in
set_option maxHeartbeats 400000 in
theorem swithin_n1 (a b m : Int) (w : World) (hm : okB m 1 = true) (h1 : okB a b = false) :
    Calls Try.prog 163 #[fr a b, .int .i64 m] w fun e w' => e = .returned (.bool (false)) ∧ Gr w w' := by
  have hm := hid hm
  have Hh1 := hid h1; clear h1
  go_enter Try.func163, Try.ntmps163
  go_wp2_with fail
  refine wp_reg0 14 (by kernel_rfl) (by kernel_rfl) ?_
  apply Exists.intro
  refine ⟨fun wb hb => ?_, ?_⟩
  · obtain ⟨y0, _, _⟩ := alloc1 (Gr.refl _)
    obtain ⟨_, _⟩ := hb.at2 y0
    clear y0
    have h1 := Hh1.out
    simp only [headOps, List.contains, List.elem, reduceIte, Bool.false_eq_true]
    repeat (first | go_big_quiet_step (first | (go_at_call 79; exact Calls.of_gr (sok_any _ _ _))) | quiet_step (fail))
    exact wpQuiet_nil rfl
  intro w1 hg1
  obtain ⟨x1_0, hz1, g1⟩ := alloc1 hg1
  obtain ⟨_, _⟩ := cells2 x1_0
  have _ := fz x1_0
  have _ := ltb x1_0
  have X1_0 := hid x1_0; clear x1_0
  have G1 := hid (g1)
  clear hg1 g1
  go_wp2
  go_ret
  exact ⟨rfl, G1.out⟩
set_option maxRecDepth 20000 in
set_option maxHeartbeats 400000 in
theorem swithin_n2 (a b m : Int) (w : World) (hm : okB m 1 = true) (h1 : okB a b = true) (h2 : decide (0 < a) = false) :
    Calls Try.prog 163 #[fr a b, .int .i64 m] w fun e w' => e = .returned (.bool (false)) ∧ Gr w w' := by
  have hm := hid hm
  have Hh1 := hid h1; clear h1
  have Hh2 := hid h2; clear h2
  go_enter Try.func163, Try.ntmps163
  go_wp2_with fail
  refine wp_reg0 14 (by kernel_rfl) (by kernel_rfl) ?_
  apply Exists.intro
  refine ⟨fun wb hb => ?_, ?_⟩
  · obtain ⟨y0, _, _⟩ := alloc1 (Gr.refl _)
    obtain ⟨_, _⟩ := hb.at2 y0
    clear y0
    have h1 := Hh1.out
    have h2 := Hh2.out
    simp only [headOps, List.contains, List.elem, reduceIte, Bool.false_eq_true]
    repeat (first | go_big_quiet_step (first | (go_at_call 79; exact Calls.of_gr (sok_any _ _ _))) | quiet_step (fail))
    exact wpQuiet_nil rfl
  intro w1 hg1
  obtain ⟨x1_0, hz1, g1⟩ := alloc1 hg1
  obtain ⟨_, _⟩ := cells2 x1_0
  have _ := fz x1_0
  have _ := ltb x1_0
  have X1_0 := hid x1_0; clear x1_0
  have G1 := hid (g1)
  clear hg1 g1
  go_wp2
  go_ret
  exact ⟨rfl, G1.out⟩
set_option maxRecDepth 20000 in
set_option maxHeartbeats 400000 in
theorem swithin_y (a b m : Int) (w : World) (hm : okB m 1 = true) (h1 : okB a b = true) (h2 : decide (0 < a) = true) :
    Calls Try.prog 163 #[fr a b, .int .i64 m] w fun e w' => e = .returned (.bool (decide (cmpI a b m 1 ≤ 0))) ∧ Gr w w' := by
  have hm := hid hm
  have Hh1 := hid h1; clear h1
  have Hh2 := hid h2; clear h2
  go_enter Try.func163, Try.ntmps163
  go_wp2_with fail
  refine wp_reg0 14 (by kernel_rfl) (by kernel_rfl) ?_
  apply Exists.intro
  refine ⟨fun wb hb => ?_, ?_⟩
  · obtain ⟨y0, _, _⟩ := alloc1 (Gr.refl _)
    obtain ⟨_, _⟩ := hb.at2 y0
    clear y0
    have h1 := Hh1.out
    have h2 := Hh2.out
    simp only [headOps, List.contains, List.elem, reduceIte, Bool.false_eq_true]
    repeat (first | go_big_quiet_step (first | (go_at_call 79; exact Calls.of_gr (sok_any _ _ _)) | (go_at_call 123; exact Calls.of_gr (swhole1 _ _)) | (go_at_call 220; exact Calls.of_gr (scmp_ok _ _ _ _ _ Hh1.out hm.out))) | quiet_step (fail))
    exact wpQuiet_nil rfl
  intro w1 hg1
  obtain ⟨x1_0, hz1, g1⟩ := alloc1 hg1
  obtain ⟨_, _⟩ := cells2 x1_0
  have _ := fz x1_0
  have _ := ltb x1_0
  have X1_0 := hid x1_0; clear x1_0
  have G1 := hid (g1)
  clear hg1 g1
  go_wp2
  go_ret
  exact ⟨rfl, G1.out⟩
theorem swithin (a b m : Int) (w : World) (hm : okB m 1 = true) :
    Calls Try.prog 163 #[fr a b, .int .i64 m] w fun e w' => e = .returned (.bool (withinB a b m)) ∧ Gr w w' := by
  unfold withinB
  cases h1 : okB a b with
  | false => exact swithin_n1 a b m w hm h1
  | true =>
    cases h2 : decide (0 < a) with
    | false => exact swithin_n2 a b m w hm h1 h2
    | true => rw [← cmp_whole]; exact swithin_y a b m w hm h1 h2
set_option maxRecDepth 20000 in
set_option maxHeartbeats 400000 in
theorem iatmost_n (a b m : Int) (w : World) (h2 : decide (0 < a) = false) :
    Calls Try.prog 147 #[fr a b, .int .i64 m] w fun e w' => e = .returned (.bool (false)) ∧ Gr w w' := by
  go_enter Try.func147, Try.ntmps147
  go_wp2
  go_ret
  exact ⟨rfl, ((Gr.refl _)).al _⟩
set_option maxRecDepth 20000 in
set_option maxHeartbeats 400000 in
theorem iatmost_y (a b m : Int) (w : World) (q0 : -4000000000000000000 ≤ m * b) (q1 : m * b ≤ 4000000000000000000) (h2 : decide (0 < a) = true) :
    Calls Try.prog 147 #[fr a b, .int .i64 m] w fun e w' => e = .returned (.bool (decide (a ≤ m * b))) ∧ Gr w w' := by
  go_enter Try.func147, Try.ntmps147
  go_wp2
  go_ret
  exact ⟨rfl, ((Gr.refl _)).al _⟩
theorem iatmost (a b m : Int) (w : World) (q0 : -4000000000000000000 ≤ m * b) (q1 : m * b ≤ 4000000000000000000) :
    Calls Try.prog 147 #[fr a b, .int .i64 m] w fun e w' => e = .returned (.bool (decide (0 < a) && decide (a ≤ m * b))) ∧ Gr w w' := by
  cases h2 : decide (0 < a) with
  | false => exact iatmost_n a b m w h2
  | true => exact iatmost_y a b m w q0 q1 h2
/-! a screw -/
theorem within_ok {a b m : Int} (h : withinB a b m = true) : okB a b = true := by
  unfold withinB at h; simp at h; exact h.1
def scB (a b n c d : Int) : Bool := withinB a b 100 && (inB n 2 100 && (okB c d && (decide (0 ≤ c) && decide (cmpI c d a b ≤ 0))))
theorem iatm_t (a b : Int) (w : World) (h1 : okB a b = true) (h : (decide (0 < a) && decide (a ≤ 100 * b)) = true) :
    Calls Try.prog 147 #[fr a b, .int .i64 100] w fun e w' => e = .returned (.bool true) ∧ Gr w w' := by
  obtain ⟨b1, b2, _, _⟩ := okB_bd h1
  exact (iatmost a b 100 w (by omega) (by omega)).mono fun e w' ⟨he, hg⟩ => ⟨by rw [he, h], hg⟩
theorem iatm_f (a b : Int) (w : World) (h1 : okB a b = true) (h : (decide (0 < a) && decide (a ≤ 100 * b)) = false) :
    Calls Try.prog 147 #[fr a b, .int .i64 100] w fun e w' => e = .returned (.bool false) ∧ Gr w w' := by
  obtain ⟨b1, b2, _, _⟩ := okB_bd h1
  exact (iatmost a b 100 w (by omega) (by omega)).mono fun e w' ⟨he, hg⟩ => ⟨by rw [he, h], hg⟩
end Go.Proofs.Ytnbdafecgccojaa
