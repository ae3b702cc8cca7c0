/- WALKS: verniers and screws: are they valid; how they come from the laws' values. -/
import Derived.Test.YtgfopfomhgfcaaaGreatDoorW
import Derived.Test.YtgfopfomhgfcaaaGreatDoorH
import Derived.Test.YtgfopfomhgfcaaaGreatDoorB1
import Derived.Test.YtgfopfomhgfcaaaGreatDoorMath2
import Derived.Test.YtgfopfomhgfcaaaGreatDoorN
namespace Go.Proofs.YtgfopfomhgfcaaaGreatDoor
open Go.RowKit Go.Sort

set_option maxRecDepth 20000 in
set_option maxHeartbeats 400000 in
theorem toVernier_any (n : Int) (b : Bool) (w : World) :
    Calls Tryz.prog 31 #[vn n b] w fun e w' => e = .returned (vn n b) ∧ Gr w w' := by
  go_enter Tryz.func31, Tryz.ntmps31
  go_wp2
  refine bodyPost_ret (v := vn n b) (by simp [results, Tryz.results31, go_sem, *]) rfl ⟨rfl, ?_⟩
  exact ((((Gr.refl _)).al _).al _).al _
set_option maxRecDepth 20000 in
set_option maxHeartbeats 400000 in
theorem sVernAt (n : Int) (b : Bool) (w : World) (k : Nat) (X1 : Hid (w.heap[k]? = some (.cells #[.int .i64 n, .bool b] 38))) :
    Calls Tryz.prog 68 #[.pointer (some ⟨k, 0, none⟩)] w fun e w' => e = .returned (.bool (inB n 2 40)) ∧ Gr w w' := by
  go_enter Tryz.func68, Tryz.ntmps68
  obtain ⟨_, _⟩ := cells2 X1.out
  have _ := fz X1.out
  have _ := ltb X1.out
  go_wp2_with (go_at_call 54; refine (in_any _ _ _ _).mono ?_; rintro e w1 ⟨rfl, rfl⟩)
  go_ret
  exact ⟨rfl, Gr.refl _⟩
set_option maxRecDepth 20000 in
set_option maxHeartbeats 400000 in
theorem iValidVernier_n1 (n : Int) (b : Bool) (w : World) (h1 : decide (2 ≤ n) = false) :
    Calls Tryz.prog 78 #[vn n b] w fun e w' => e = .returned (.bool (false)) ∧ Gr w w' := by
  go_enter Tryz.func78, Tryz.ntmps78
  go_wp2
  go_ret
  exact ⟨rfl, ((Gr.refl _)).al _⟩
set_option maxRecDepth 20000 in
set_option maxHeartbeats 400000 in
theorem iValidVernier_y (n : Int) (b : Bool) (w : World) (h1 : decide (2 ≤ n) = true) :
    Calls Tryz.prog 78 #[vn n b] w fun e w' => e = .returned (.bool (decide (n ≤ 40))) ∧ Gr w w' := by
  go_enter Tryz.func78, Tryz.ntmps78
  go_wp2
  go_ret
  exact ⟨rfl, ((Gr.refl _)).al _⟩
theorem iValidVernier (n : Int) (b : Bool) (w : World) :
    Calls Tryz.prog 78 #[vn n b] w fun e w' => e = .returned (.bool (inB n 2 40)) ∧ Gr w w' := by
  unfold inB
  cases h1 : decide (2 ≤ n) with
  | false => exact iValidVernier_n1 n b w h1
  | true => exact iValidVernier_y n b w h1
/-! a length is at most so long -/
def withinB (a b most : Int) : Bool := okB a b && (decide (0 < a) && decide (a ≤ most * b))
theorem cmp_whole {a b m : Int} : decide (cmpI a b m 1 ≤ 0) = decide (a ≤ m * b) := by
  unfold cmpI
  rw [Int.mul_one]
  by_cases h : a ≤ m * b
  · simp only [h, decide_true, decide_eq_true_eq]
    split
    · omega
    · rw [if_neg (by omega)]; omega
  · simp only [h, decide_false, decide_eq_false_iff_not]
    rw [if_neg (by omega), if_pos (by omega)]; omega
set_option maxRecDepth 20000 in
set_option maxHeartbeats 400000 in
theorem swithin_n1 (a b m : Int) (w : World) (hm : okB m 1 = true) (h1 : okB a b = false) :
    Calls Tryz.prog 71 #[fr a b, .int .i64 m] w fun e w' => e = .returned (.bool (false)) ∧ Gr w w' := by
  have hm := hid hm
  have Hh1 := hid h1; clear h1
  go_enter Tryz.func71, Tryz.ntmps71
  go_wp2_with fail
  refine wp_reg0 14 (by kernel_rfl) (by kernel_rfl) ?_
  apply Exists.intro
  refine ⟨fun wb hb => ?_, ?_⟩
  · obtain ⟨y0, _, _⟩ := alloc1 (Gr.refl _)
    obtain ⟨_, _⟩ := hb.at2 y0
    clear y0
    have h1 := Hh1.out
    simp only [headOps, List.contains, List.elem, reduceIte, Bool.false_eq_true]
    repeat (first | go_big_quiet_step (first | (go_at_call 89; exact Calls.of_gr (sok_any _ _ _))) | quiet_step (fail))
    exact wpQuiet_nil rfl
  intro w1 hg1
  obtain ⟨x1_0, hz1, g1⟩ := alloc1 hg1
  obtain ⟨_, _⟩ := cells2 x1_0
  have _ := fz x1_0
  have _ := ltb x1_0
  have X1_0 := hid x1_0; clear x1_0
  have G1 := hid (g1)
  clear hg1 g1
  go_wp2
  go_ret
  exact ⟨rfl, G1.out⟩
set_option maxRecDepth 20000 in
set_option maxHeartbeats 400000 in
theorem swithin_n2 (a b m : Int) (w : World) (hm : okB m 1 = true) (h1 : okB a b = true) (h2 : decide (0 < a) = false) :
    Calls Tryz.prog 71 #[fr a b, .int .i64 m] w fun e w' => e = .returned (.bool (false)) ∧ Gr w w' := by
  have hm := hid hm
  have Hh1 := hid h1; clear h1
  have Hh2 := hid h2; clear h2
  go_enter Tryz.func71, Tryz.ntmps71
  go_wp2_with fail
  refine wp_reg0 14 (by kernel_rfl) (by kernel_rfl) ?_
  apply Exists.intro
  refine ⟨fun wb hb => ?_, ?_⟩
  · obtain ⟨y0, _, _⟩ := alloc1 (Gr.refl _)
    obtain ⟨_, _⟩ := hb.at2 y0
    clear y0
    have h1 := Hh1.out
    have h2 := Hh2.out
    simp only [headOps, List.contains, List.elem, reduceIte, Bool.false_eq_true]
    repeat (first | go_big_quiet_step (first | (go_at_call 89; exact Calls.of_gr (sok_any _ _ _))) | quiet_step (fail))
    exact wpQuiet_nil rfl
  intro w1 hg1
  obtain ⟨x1_0, hz1, g1⟩ := alloc1 hg1
  obtain ⟨_, _⟩ := cells2 x1_0
  have _ := fz x1_0
  have _ := ltb x1_0
  have X1_0 := hid x1_0; clear x1_0
  have G1 := hid (g1)
  clear hg1 g1
  go_wp2
  go_ret
  exact ⟨rfl, G1.out⟩
set_option maxRecDepth 20000 in
set_option maxHeartbeats 400000 in
theorem swithin_y (a b m : Int) (w : World) (hm : okB m 1 = true) (h1 : okB a b = true) (h2 : decide (0 < a) = true) :
    Calls Tryz.prog 71 #[fr a b, .int .i64 m] w fun e w' => e = .returned (.bool (decide (cmpI a b m 1 ≤ 0))) ∧ Gr w w' := by
  have hm := hid hm
  have Hh1 := hid h1; clear h1
  have Hh2 := hid h2; clear h2
  go_enter Tryz.func71, Tryz.ntmps71
  go_wp2_with fail
  refine wp_reg0 14 (by kernel_rfl) (by kernel_rfl) ?_
  apply Exists.intro
  refine ⟨fun wb hb => ?_, ?_⟩
  · obtain ⟨y0, _, _⟩ := alloc1 (Gr.refl _)
    obtain ⟨_, _⟩ := hb.at2 y0
    clear y0
    have h1 := Hh1.out
    have h2 := Hh2.out
    simp only [headOps, List.contains, List.elem, reduceIte, Bool.false_eq_true]
    repeat (first | go_big_quiet_step (first | (go_at_call 89; exact Calls.of_gr (sok_any _ _ _)) | (go_at_call 53; exact Calls.of_gr (swhole1 _ _)) | (go_at_call 107; exact Calls.of_gr (scmp_ok _ _ _ _ _ Hh1.out hm.out))) | quiet_step (fail))
    exact wpQuiet_nil rfl
  intro w1 hg1
  obtain ⟨x1_0, hz1, g1⟩ := alloc1 hg1
  obtain ⟨_, _⟩ := cells2 x1_0
  have _ := fz x1_0
  have _ := ltb x1_0
  have X1_0 := hid x1_0; clear x1_0
  have G1 := hid (g1)
  clear hg1 g1
  go_wp2
  go_ret
  exact ⟨rfl, G1.out⟩
theorem swithin (a b m : Int) (w : World) (hm : okB m 1 = true) :
    Calls Tryz.prog 71 #[fr a b, .int .i64 m] w fun e w' => e = .returned (.bool (withinB a b m)) ∧ Gr w w' := by
  unfold withinB
  cases h1 : okB a b with
  | false => exact swithin_n1 a b m w hm h1
  | true =>
    cases h2 : decide (0 < a) with
    | false => exact swithin_n2 a b m w hm h1 h2
    | true => rw [← cmp_whole]; exact swithin_y a b m w hm h1 h2
set_option maxRecDepth 20000 in
set_option maxHeartbeats 400000 in
theorem iatmost_n (a b m : Int) (w : World) (h2 : decide (0 < a) = false) :
    Calls Tryz.prog 109 #[fr a b, .int .i64 m] w fun e w' => e = .returned (.bool (false)) ∧ Gr w w' := by
  go_enter Tryz.func109, Tryz.ntmps109
  go_wp2
  go_ret
  exact ⟨rfl, ((Gr.refl _)).al _⟩
set_option maxRecDepth 20000 in
set_option maxHeartbeats 400000 in
theorem iatmost_y (a b m : Int) (w : World) (q0 : -4000000000000000000 ≤ m * b) (q1 : m * b ≤ 4000000000000000000) (h2 : decide (0 < a) = true) :
    Calls Tryz.prog 109 #[fr a b, .int .i64 m] w fun e w' => e = .returned (.bool (decide (a ≤ m * b))) ∧ Gr w w' := by
  go_enter Tryz.func109, Tryz.ntmps109
  go_wp2
  go_ret
  exact ⟨rfl, ((Gr.refl _)).al _⟩
theorem iatmost (a b m : Int) (w : World) (q0 : -4000000000000000000 ≤ m * b) (q1 : m * b ≤ 4000000000000000000) :
    Calls Tryz.prog 109 #[fr a b, .int .i64 m] w fun e w' => e = .returned (.bool (decide (0 < a) && decide (a ≤ m * b))) ∧ Gr w w' := by
  cases h2 : decide (0 < a) with
  | false => exact iatmost_n a b m w h2
  | true => exact iatmost_y a b m w q0 q1 h2
/-! a screw -/
theorem within_ok {a b m : Int} (h : withinB a b m = true) : okB a b = true := by
  unfold withinB at h; simp at h; exact h.1
def scB (a b n c d : Int) : Bool := withinB a b 100 && (inB n 2 100 && (okB c d && (decide (0 ≤ c) && decide (cmpI c d a b ≤ 0))))
theorem iatm_t (a b : Int) (w : World) (h1 : okB a b = true) (h : (decide (0 < a) && decide (a ≤ 100 * b)) = true) :
    Calls Tryz.prog 109 #[fr a b, .int .i64 100] w fun e w' => e = .returned (.bool true) ∧ Gr w w' := by
  obtain ⟨b1, b2, _, _⟩ := okB_bd h1
  exact (iatmost a b 100 w (by omega) (by omega)).mono fun e w' ⟨he, hg⟩ => ⟨by rw [he, h], hg⟩
theorem iatm_f (a b : Int) (w : World) (h1 : okB a b = true) (h : (decide (0 < a) && decide (a ≤ 100 * b)) = false) :
    Calls Tryz.prog 109 #[fr a b, .int .i64 100] w fun e w' => e = .returned (.bool false) ∧ Gr w w' := by
  obtain ⟨b1, b2, _, _⟩ := okB_bd h1
  exact (iatmost a b 100 w (by omega) (by omega)).mono fun e w' ⟨he, hg⟩ => ⟨by rw [he, h], hg⟩
end Go.Proofs.YtgfopfomhgfcaaaGreatDoor
namespace Go.Proofs.YtgfopfomhgfcaaaGreatDoor
open Go.RowKit Go.Sort

def n1P (a b t : Int) : Int := redP (t * a) (1 * b)
def n1Q (a b t : Int) : Int := redQ (t * a) (1 * b)
def nP (a b n t : Int) : Int := redP (n1P a b t * 1) (n1Q a b t * n)
def nQ (a b n t : Int) : Int := redQ (n1P a b t * 1) (n1Q a b t * n)
def lP (a b n c d t : Int) : Int := redP (nP a b n t * d - c * nQ a b n t) (nQ a b n t * d)
def lQ (a b n c d t : Int) : Int := redQ (nP a b n t * d - c * nQ a b n t) (nQ a b n t * d)
/-- Can it be told where the nut is? and the least place? -/
def n1B (a b t : Int) : Bool := okB (n1P a b t) (n1Q a b t)
def nB (a b n t : Int) : Bool := okB (nP a b n t) (nQ a b n t)
def lB (a b n c d t : Int) : Bool := okB (lP a b n c d t) (lQ a b n c d t)
theorem ok_whole {t : Int} (h1 : -1000000000 ≤ t) (h2 : t ≤ 1000000000) : okB t 1 = true := by
  rw [okB_iff]; unfold Ok; simp; omega
theorem in_bd {t lo hi : Int} (h : inB t lo hi = true) : lo ≤ t ∧ t ≤ hi := by
  unfold inB at h; simpa using h
theorem smul_t (a b c d : Int) (w : World) (h1 : okB a b = true) (h2 : okB c d = true) (hk : okB (redP (a*c) (b*d)) (redQ (a*c) (b*d)) = true) :
    Calls Tryz.prog 126 #[fr a b, fr c d] w fun e w' => e = .returned (.tuple #[fr (redP (a*c) (b*d)) (redQ (a*c) (b*d)), .int .i64 0]) ∧ Gr w w' := by
  obtain ⟨b1, b2, b3, b4⟩ := okB_bd h1
  obtain ⟨d1, d2, d3, d4⟩ := okB_bd h2
  have h := sl01Mul a b c d w b1 b2 b3 b4 d1 d2 d3 d4
  unfold rP rQ rC at h
  rw [hk] at h
  simpa using h
theorem smul_f (a b c d : Int) (w : World) (h1 : okB a b = true) (h2 : okB c d = true) (hk : okB (redP (a*c) (b*d)) (redQ (a*c) (b*d)) = false) :
    Calls Tryz.prog 126 #[fr a b, fr c d] w fun e w' => e = .returned (.tuple #[fr 0 0, .int .i64 3]) ∧ Gr w w' := by
  obtain ⟨b1, b2, b3, b4⟩ := okB_bd h1
  obtain ⟨d1, d2, d3, d4⟩ := okB_bd h2
  have h := sl01Mul a b c d w b1 b2 b3 b4 d1 d2 d3 d4
  unfold rP rQ rC at h
  rw [hk] at h
  simpa using h
theorem in_t (n lo hi : Int) (w : World) (h : inB n lo hi = true) : Calls Tryz.prog 54 #[.int .i64 n, .int .i64 lo, .int .i64 hi] w fun e w' => e = .returned (.bool true) ∧ Gr w w' :=
  (in_any n lo hi w).mono fun e w' ⟨he, hg⟩ => ⟨by rw [he, h], hg ▸ Gr.refl _⟩
theorem in_f (n lo hi : Int) (w : World) (h : inB n lo hi = false) : Calls Tryz.prog 54 #[.int .i64 n, .int .i64 lo, .int .i64 hi] w fun e w' => e = .returned (.bool false) ∧ Gr w w' :=
  (in_any n lo hi w).mono fun e w' ⟨he, hg⟩ => ⟨by rw [he, h], hg ▸ Gr.refl _⟩
theorem mulw_t (a b t : Int) (w : World) (h1 : okB a b = true) (ht : okB t 1 = true) (g : n1B a b t = true) :
    Calls Tryz.prog 126 #[fr t 1, fr a b] w fun e w' => e = .returned (.tuple #[fr (n1P a b t) (n1Q a b t), .int .i64 0]) ∧ Gr w w' := smul_t t 1 a b w ht h1 g
/-- Can both ends be told? -/
def eB (a b n c d t : Int) : Bool := n1B a b t && (nB a b n t && lB a b n c d t)
theorem eB_all {a b n c d t : Int} (g : eB a b n c d t = true) : n1B a b t = true ∧ nB a b n t = true ∧ lB a b n c d t = true := by
  unfold eB at g; simpa using g
theorem timesw_t (a b t : Int) (w : World) (h1 : okB a b = true) (ht : okB t 1 = true) (g : n1B a b t = true) :
    Calls Tryz.prog 190 #[fr t 1, fr a b] w fun e w' => e = .returned (fr (n1P a b t) (n1Q a b t)) ∧ Gr w w' := times_yes t 1 a b w ht h1 g
set_option maxRecDepth 20000 in
set_option maxHeartbeats 400000 in
theorem itw_ok (a b t : Int) (w : World) (h1 : okB a b = true) (ht : okB t 1 = true) (g1 : n1B a b t = true) :
    Calls Tryz.prog 172 #[fr a b, .int .i64 t] w fun e w' => e = .returned (fr (n1P a b t) (n1Q a b t)) ∧ Gr w w' := by
  have hf := hid (fits_of ht)
  have h1 := hid h1; have ht := hid ht; have g1 := hid g1
  go_enter Tryz.func172, Tryz.ntmps172
  go_wp2_with fail
  refine wp_reg0 4 (by kernel_rfl) (by kernel_rfl) ?_
  apply Exists.intro
  refine ⟨fun wb hb => ?_, ?_⟩
  · obtain ⟨y0, y1, _, _⟩ := alloc2 (Gr.refl _)
    obtain ⟨_, _⟩ := hb.at2 y0
    obtain ⟨_, _⟩ := hb.at2 y1
    clear y0 y1
    simp only [headOps, List.contains, List.elem, reduceIte, Bool.false_eq_true]
    repeat (first | go_big_quiet_step (first | (go_at_call 138; exact Calls.of_gr (fit_ok _ _ _ hf.out.1 hf.out.2)) | (go_at_call 190; exact Calls.of_gr (timesw_t a b t _ h1.out ht.out g1.out))) | quiet_step (fail))
    exact wpQuiet_nil rfl
  intro w1 hg1
  obtain ⟨x1_0, x1_1, hz1, g1⟩ := alloc2 hg1
  obtain ⟨_, _⟩ := cells2 x1_0
  have _ := fz x1_0
  have _ := ltb x1_0
  obtain ⟨_, _⟩ := cells2 x1_1
  have _ := fz x1_1
  have _ := ltb x1_1
  have X1_0 := hid x1_0; clear x1_0
  have X1_1 := hid x1_1; clear x1_1
  have G1 := hid (g1)
  clear hg1 g1
  go_wp2
  refine bodyPost_ret (v := fr (n1P a b t) (n1Q a b t)) (by simp [results, Tryz.results172, go_sem, *]) rfl ⟨rfl, ?_⟩
  exact ((G1.out).setCell (by simp <;> omega) _).setCell (by simp <;> omega) _
set_option maxRecDepth 20000 in
set_option maxHeartbeats 400000 in
theorem itw_bad (a b t : Int) (w : World) (h1 : okB a b = true) (ht : okB t 1 = true) (g1 : n1B a b t = false) :
    Calls Tryz.prog 172 #[fr a b, .int .i64 t] w fun e w' => (∃ x y, e = .panicked [{ v := .iface 227 (fr x y), recovered := false }]) ∧ Gr w w' := by
  have hf := hid (fits_of ht)
  have h1 := hid h1; have ht := hid ht; have g1 := hid g1
  go_enter Tryz.func172, Tryz.ntmps172
  go_wp2_with fail
  refine wp_regP 3 [4] (by kernel_rfl) (by kernel_rfl) rfl ?_
  apply Exists.intro
  refine ⟨190, #[fr t 1, fr a b], fun wb hb => ?_, ?_⟩
  · obtain ⟨y0, y1, _, _⟩ := alloc2 (Gr.refl _)
    obtain ⟨_, _⟩ := hb.at2 y0
    obtain ⟨_, _⟩ := hb.at2 y1
    clear y0 y1
    simp only [headOps, List.contains, List.elem, List.length_cons, List.length_nil, Nat.zero_add, Nat.reduceAdd, Nat.reduceBEq, reduceIte, Bool.false_eq_true, dumOp]
    repeat (first | go_big_quiet_step (first | (go_at_call 138; exact Calls.of_gr (fit_ok _ _ _ hf.out.1 hf.out.2))) | quiet_step (fail))
    exact wpQuiet_nil rfl
  refine ⟨fun w' => by kernel_rfl, fun w' hg' => (times_no _ _ _ _ _ ht.out h1.out g1.out).mono fun e w2 ⟨⟨x, y, he⟩, hg2⟩ => ⟨_, he, fun a' ha' => ⟨ha', ⟨x, y, rfl⟩, ((((Gr.refl _).al _).al _).trans hg').trans hg2⟩⟩⟩
end Go.Proofs.YtgfopfomhgfcaaaGreatDoor
namespace Go.Proofs.YtgfopfomhgfcaaaGreatDoor
open Go.RowKit Go.Sort

theorem scB_all {a b n c d : Int} (h : scB a b n c d = true) : okB a b = true ∧ okB n 1 = true ∧ n ≠ 0 ∧ okB c d = true ∧ 0 ≤ c := by
  unfold scB at h
  simp only [Bool.and_eq_true, decide_eq_true_eq] at h
  obtain ⟨h1, h2, h3, h4, _⟩ := h
  obtain ⟨i1, i2⟩ := in_bd h2
  exact ⟨within_ok h1, ok_whole (by omega) (by omega), by omega, h3, h4⟩
theorem ends_ok {a b n c d t : Int} (h : scB a b n c d = true) (g : eB a b n c d t = true) : spB (lP a b n c d t) (lQ a b n c d t) (nP a b n t) (nQ a b n t) = true := by
  obtain ⟨_, _, _, h2, hc⟩ := scB_all h
  obtain ⟨_, g2, g3⟩ := eB_all g
  have q1 := (okB_bd g2).1
  have q2 := (okB_bd h2).1
  have := sub_le_red (n := nP a b n t) (m := nQ a b n t) (c := c) (e := d) q1 q2 hc
  have hle : cmpI (lP a b n c d t) (lQ a b n c d t) (nP a b n t) (nQ a b n t) ≤ 0 := by
    unfold cmpI lP lQ
    split
    · omega
    · rw [if_neg (by omega)]; omega
  unfold spB
  unfold lB at g3
  unfold nB at g2
  rw [g2, g3]
  simpa using hle
theorem gt_in' (t m : Int) : inB t (-m) m = !gtB t m := by
  unfold inB gtB
  rw [Bool.eq_iff_iff]
  simp
theorem gtb {t m : Int} (h : gtB t m = false) : -m ≤ t ∧ t ≤ m := by
  have := gt_in' t m
  rw [h] at this
  exact in_bd this
theorem igt_t (t m : Int) (w : World) (h0 : 0 ≤ m) (h1 : m ≤ 9223372036854775807) (h : gtB t m = true) : Calls Tryz.prog 169 #[.int .i64 t, .int .i64 m] w fun e w' => e = .returned (.bool true) ∧ Gr w w' :=
  (gt_any t m w h0 h1).mono fun e w' ⟨he, hg⟩ => ⟨by rw [he, h], hg ▸ Gr.refl _⟩
theorem igt_f (t m : Int) (w : World) (h0 : 0 ≤ m) (h1 : m ≤ 9223372036854775807) (h : gtB t m = false) : Calls Tryz.prog 169 #[.int .i64 t, .int .i64 m] w fun e w' => e = .returned (.bool false) ∧ Gr w w' :=
  (gt_any t m w h0 h1).mono fun e w' ⟨he, hg⟩ => ⟨by rw [he, h], hg ▸ Gr.refl _⟩
/-- Does a spindle stand where it can, its screw and Turned being valid? -/
def stB (a b n c d t p q : Int) : Bool := okB p q && (eB a b n c d t && liesB (lP a b n c d t) (lQ a b n c d t) (nP a b n t) (nQ a b n t) p q)
def sdB (a b n c d t p q : Int) : Bool := scB a b n c d && (inB t (-10000) 10000 && stB a b n c d t p q)
theorem sdB_all {a b n c d t p q : Int} (h : sdB a b n c d t p q = true) : scB a b n c d = true ∧ (-10000 ≤ t ∧ t ≤ 10000) ∧ okB p q = true ∧ eB a b n c d t = true ∧ liesB (lP a b n c d t) (lQ a b n c d t) (nP a b n t) (nQ a b n t) p q = true := by
  unfold sdB stB at h
  simp only [Bool.and_eq_true] at h
  exact ⟨h.1, in_bd h.2.1, h.2.2.1, h.2.2.2.1, h.2.2.2.2⟩
end Go.Proofs.YtgfopfomhgfcaaaGreatDoor
