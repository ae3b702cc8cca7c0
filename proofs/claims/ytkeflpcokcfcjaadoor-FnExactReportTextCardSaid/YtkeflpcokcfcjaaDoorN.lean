/- WALKS: fractions are compared. -/
import Derived.Test.YtkeflpcokcfcjaaDoorH
namespace Go.Proofs.YtkeflpcokcfcjaaDoor
open Go.RowKit Go.Sort

/-- -1, 0 or 1. -/
def cmpI (a b c d : Int) : Int := if a * d < c * b then -1 else if c * b < a * d then 1 else 0

set_option maxHeartbeats 400000 in
theorem scmp_lt (a b c d : Int) (w : World) (q0 : -1000000000000000000 ≤ a * d) (q3 : c * b ≤ 1000000000000000000) (h : a * d < c * b) :
    Calls Tryd.prog 89 #[fr a b, fr c d] w fun e w' => e = .returned (.int .i64 (-1)) ∧ Gr w w' := by
  go_enter Tryd.func89, Tryd.ntmps89
  go_wp2
  go_ret
  exact ⟨rfl, (Gr.alloc _ _).trans (Gr.alloc _ _)⟩
set_option maxHeartbeats 400000 in
theorem scmp_gt (a b c d : Int) (w : World) (q1 : a * d ≤ 1000000000000000000) (q2 : -1000000000000000000 ≤ c * b) (h : c * b < a * d) :
    Calls Tryd.prog 89 #[fr a b, fr c d] w fun e w' => e = .returned (.int .i64 1) ∧ Gr w w' := by
  go_enter Tryd.func89, Tryd.ntmps89
  go_wp2
  go_ret
  exact ⟨rfl, (Gr.alloc _ _).trans (Gr.alloc _ _)⟩
set_option maxHeartbeats 400000 in
theorem scmp_eq (a b c d : Int) (w : World) (q0 : -1000000000000000000 ≤ a * d) (q1 : a * d ≤ 1000000000000000000) (h : ¬ a * d < c * b) (h' : ¬ c * b < a * d) :
    Calls Tryd.prog 89 #[fr a b, fr c d] w fun e w' => e = .returned (.int .i64 0) ∧ Gr w w' := by
  go_enter Tryd.func89, Tryd.ntmps89
  go_wp2
  go_ret
  exact ⟨rfl, (Gr.alloc _ _).trans (Gr.alloc _ _)⟩
theorem scmp (a b c d : Int) (w : World) (q0 : -1000000000000000000 ≤ a * d) (q1 : a * d ≤ 1000000000000000000) (q2 : -1000000000000000000 ≤ c * b) (q3 : c * b ≤ 1000000000000000000) :
    Calls Tryd.prog 89 #[fr a b, fr c d] w fun e w' => e = .returned (.int .i64 (cmpI a b c d)) ∧ Gr w w' := by
  unfold cmpI
  by_cases h : a * d < c * b
  · rw [if_pos h]; exact scmp_lt a b c d w q0 q3 h
  · rw [if_neg h]
    by_cases h' : c * b < a * d
    · rw [if_pos h']; exact scmp_gt a b c d w q1 q2 h'
    · rw [if_neg h']; exact scmp_eq a b c d w q0 q1 h h'

/-- Each value has one fraction in lowest terms. -/
theorem dvd_of {a b d : Int} (g : Int.gcd a b = 1) (h : b ∣ a * d) : b ∣ d := by
  have h1 : b.natAbs ∣ a.natAbs * d.natAbs := by rw [← Int.natAbs_mul]; exact Int.natAbs_dvd_natAbs.2 h
  have h2 : Nat.Coprime b.natAbs a.natAbs := by
    show Nat.gcd _ _ = 1
    rw [Nat.gcd_comm]; exact g
  exact Int.natAbs_dvd_natAbs.1 (h2.dvd_of_dvd_mul_left h1)
theorem same_of {a b c d : Int} (h1 : Ok a b) (h2 : Ok c d) (h : a * d = c * b) : a = c ∧ b = d := by
  obtain ⟨b1, _, _, _, g1⟩ := h1
  obtain ⟨d1, _, _, _, g2⟩ := h2
  have k1 : b ∣ d := dvd_of g1 ⟨c, by rw [h, Int.mul_comm]⟩
  have k2 : d ∣ b := dvd_of g2 ⟨a, by rw [← h, Int.mul_comm]⟩
  have e : b = d := Int.dvd_antisymm (by omega) (by omega) k1 k2
  subst e
  exact ⟨Int.eq_of_mul_eq_mul_right (by omega) h, rfl⟩

set_option maxHeartbeats 400000 in
theorem iord_same (a b : Int) (w : World) :
    Calls Tryd.prog 94 #[fr a b, fr a b] w fun e w' => e = .returned (.int .i64 0) ∧ Gr w w' := by
  go_enter Tryd.func94, Tryd.ntmps94
  go_wp2
  go_ret
  exact ⟨rfl, (Gr.alloc _ _).trans (Gr.alloc _ _)⟩
set_option maxHeartbeats 400000 in
theorem iord_lt_p (a b c d : Int) (w : World) (hn : ((a : Int) == c) = false) (q0 : -1000000000000000000 ≤ a * d ∧ a * d ≤ 1000000000000000000) (q2 : -1000000000000000000 ≤ c * b ∧ c * b ≤ 1000000000000000000) (h : a * d < c * b) :
    Calls Tryd.prog 94 #[fr a b, fr c d] w fun e w' => e = .returned (.int .i64 (-1)) ∧ Gr w w' := by
  obtain ⟨_, _⟩ := q0
  obtain ⟨_, _⟩ := q2
  go_enter Tryd.func94, Tryd.ntmps94
  go_wp2
  go_ret
  exact ⟨rfl, (Gr.alloc _ _).trans (Gr.alloc _ _)⟩
set_option maxHeartbeats 400000 in
theorem iord_lt_q (a b d : Int) (w : World) (hn : ((b : Int) == d) = false) (q0 : -1000000000000000000 ≤ a * d ∧ a * d ≤ 1000000000000000000) (q2 : -1000000000000000000 ≤ a * b ∧ a * b ≤ 1000000000000000000) (h : a * d < a * b) :
    Calls Tryd.prog 94 #[fr a b, fr a d] w fun e w' => e = .returned (.int .i64 (-1)) ∧ Gr w w' := by
  obtain ⟨_, _⟩ := q0
  obtain ⟨_, _⟩ := q2
  go_enter Tryd.func94, Tryd.ntmps94
  go_wp2
  go_ret
  exact ⟨rfl, (Gr.alloc _ _).trans (Gr.alloc _ _)⟩
set_option maxHeartbeats 400000 in
theorem iord_gt_p (a b c d : Int) (w : World) (hn : ((a : Int) == c) = false) (q0 : -1000000000000000000 ≤ a * d ∧ a * d ≤ 1000000000000000000) (q2 : -1000000000000000000 ≤ c * b ∧ c * b ≤ 1000000000000000000) (h : ¬ a * d < c * b) :
    Calls Tryd.prog 94 #[fr a b, fr c d] w fun e w' => e = .returned (.int .i64 1) ∧ Gr w w' := by
  obtain ⟨_, _⟩ := q0
  obtain ⟨_, _⟩ := q2
  go_enter Tryd.func94, Tryd.ntmps94
  go_wp2
  go_ret
  exact ⟨rfl, (Gr.alloc _ _).trans (Gr.alloc _ _)⟩
set_option maxHeartbeats 400000 in
theorem iord_gt_q (a b d : Int) (w : World) (hn : ((b : Int) == d) = false) (q0 : -1000000000000000000 ≤ a * d ∧ a * d ≤ 1000000000000000000) (q2 : -1000000000000000000 ≤ a * b ∧ a * b ≤ 1000000000000000000) (h : ¬ a * d < a * b) :
    Calls Tryd.prog 94 #[fr a b, fr a d] w fun e w' => e = .returned (.int .i64 1) ∧ Gr w w' := by
  obtain ⟨_, _⟩ := q0
  obtain ⟨_, _⟩ := q2
  go_enter Tryd.func94, Tryd.ntmps94
  go_wp2
  go_ret
  exact ⟨rfl, (Gr.alloc _ _).trans (Gr.alloc _ _)⟩
theorem iord (a b c d : Int) (w : World) (h1 : okB a b = true) (h2 : okB c d = true) :
    Calls Tryd.prog 94 #[fr a b, fr c d] w fun e w' => e = .returned (.int .i64 (cmpI a b c d)) ∧ Gr w w' := by
  have o1 := okB_iff.1 h1
  have o2 := okB_iff.1 h2
  obtain ⟨b1, b2, b3, b4⟩ := okB_bd h1
  obtain ⟨d1, d2, d3, d4⟩ := okB_bd h2
  have q0 := mul_bd (x := a) (y := d) b3 b4 (by omega) d2
  have q2 := mul_bd (x := c) (y := b) d3 d4 (by omega) b2
  by_cases e : a = c ∧ b = d
  · obtain ⟨rfl, rfl⟩ := e
    have : cmpI a b a b = 0 := by unfold cmpI; simp
    rw [this]
    exact iord_same a b w
  · have hne : a * d ≠ c * b := fun h => e (same_of o1 o2 h)
    by_cases h : a * d < c * b
    · have : cmpI a b c d = -1 := by unfold cmpI; rw [if_pos h]
      rw [this]
      by_cases hc : a = c
      · subst hc
        exact iord_lt_q a b d w (by simpa using fun hb => e ⟨rfl, hb⟩) q0 q2 h
      · exact iord_lt_p a b c d w (by simpa using hc) q0 q2 h
    · have : cmpI a b c d = 1 := by unfold cmpI; rw [if_neg h, if_pos (by omega)]
      rw [this]
      by_cases hc : a = c
      · subst hc
        exact iord_gt_q a b d w (by simpa using fun hb => e ⟨rfl, hb⟩) q0 q2 h
      · exact iord_gt_p a b c d w (by simpa using hc) q0 q2 h
end Go.Proofs.YtkeflpcokcfcjaaDoor
namespace Go.Proofs.YtkeflpcokcfcjaaDoor
open Go.RowKit Go.Sort

def spB (a b c d : Int) : Bool := okB a b && okB c d && decide (cmpI a b c d ≤ 0)

set_option maxRecDepth 20000 in
set_option maxHeartbeats 400000 in
theorem iSpan_n1 (a b c d : Int) (w : World) (h1 : okB a b = false) :
    Calls Tryd.prog 68 #[sp a b c d] w fun e w' => e = .returned (.bool false) ∧ Gr w w' := by
  go_enter Tryd.func68, Tryd.ntmps68
  go_wp2_with (go_at_call 50; refine (iok_any _ _ _).mono ?_; rintro e w1 ⟨rfl, hg1⟩; obtain ⟨_, _, G1⟩ := alloc1 hg1; have G1 := hid G1; clear hg1)
  go_ret
  exact ⟨rfl, G1.out⟩
set_option maxRecDepth 20000 in
set_option maxHeartbeats 400000 in
theorem iSpan_n2 (a b c d : Int) (w : World) (h1 : okB a b = true) (h2 : okB c d = false) :
    Calls Tryd.prog 68 #[sp a b c d] w fun e w' => e = .returned (.bool false) ∧ Gr w w' := by
  go_enter Tryd.func68, Tryd.ntmps68
  go_wp2_with fail
  refine (iok_any _ _ _).mono ?_
  rintro e w1 ⟨rfl, hg1⟩
  rw [h1]
  obtain ⟨x2, _, G1⟩ := alloc1 hg1
  obtain ⟨_, _, _, _⟩ := cells4 x2
  have _ := fz x2
  have G1 := hid G1
  clear hg1 x2
  go_wp2_with fail
  refine (iok_any _ _ _).mono ?_
  rintro e w2 ⟨rfl, hg2⟩
  rw [h2]
  have G2 := hid (G1.out.trans hg2)
  clear hg2
  go_wp2
  go_ret
  exact ⟨rfl, G2.out⟩
set_option maxRecDepth 20000 in
set_option maxHeartbeats 400000 in
theorem iSpan_yes (a b c d : Int) (w : World) (h1 : okB a b = true) (h2 : okB c d = true) :
    Calls Tryd.prog 68 #[sp a b c d] w fun e w' => e = .returned (.bool (decide (cmpI a b c d ≤ 0))) ∧ Gr w w' := by
  have K1 := hid h1
  have K2 := hid h2
  go_enter Tryd.func68, Tryd.ntmps68
  go_wp2_with fail
  refine (iok_any _ _ _).mono ?_
  rintro e w1 ⟨rfl, hg1⟩
  rw [h1]
  obtain ⟨x2, _, G1⟩ := alloc1 hg1
  have X2 := hid x2
  obtain ⟨_, _, _, _⟩ := cells4 x2
  have G1 := hid G1
  clear hg1 x2
  go_wp2_with fail
  refine (iok_any _ _ _).mono ?_
  rintro e w2 ⟨rfl, hg2⟩
  rw [h2]
  have x3 := hg2.keep X2.out
  obtain ⟨_, _, _, _⟩ := cells4 x3
  have G2 := hid (G1.out.trans hg2)
  clear hg2 x3
  go_wp2_with (go_at_call 94; refine (iord _ _ _ _ _ K1.out K2.out).mono ?_; rintro e w3 ⟨rfl, hg3⟩; have G3 := hid (G2.out.trans hg3); clear hg3)
  go_ret
  exact ⟨rfl, G3.out⟩
set_option maxRecDepth 20000 in
set_option maxHeartbeats 400000 in
theorem sSpanAt_n1 (a b c d : Int) (w : World) (k : Nat) (x : w.heap[k]? = some (.cells #[.int .i64 a, .int .i64 b, .int .i64 c, .int .i64 d] 49)) (h1 : okB a b = false) :
    Calls Tryd.prog 65 #[.pointer (some ⟨k, 0, none⟩)] w fun e w' => e = .returned (.bool false) ∧ Gr w w' := by
  have X := hid x; clear x
  have H1 := hid h1; clear h1
  go_enter Tryd.func65, Tryd.ntmps65
  go_wp2_with fail
  refine wp_reg0 24 (by kernel_rfl) (by kernel_rfl) ?_
  apply Exists.intro
  refine ⟨fun wb hb => ?_, ?_⟩
  · obtain ⟨_, _, _, _⟩ := hb.at4 X.out
    have h1 := H1.out
    simp only [headOps, List.contains, List.elem, reduceIte, Bool.false_eq_true]
    repeat (first | go_big_quiet_step (first | (go_at_call 43; exact Calls.of_gr (sok_any _ _ _))) | quiet_step (fail))
    exact wpQuiet_nil rfl
  intro w1 hg1
  have G1 := hid hg1
  clear hg1
  go_wp2
  go_ret
  exact ⟨rfl, G1.out⟩
set_option maxRecDepth 20000 in
set_option maxHeartbeats 400000 in
theorem sSpanAt_n2 (a b c d : Int) (w : World) (k : Nat) (x : w.heap[k]? = some (.cells #[.int .i64 a, .int .i64 b, .int .i64 c, .int .i64 d] 49)) (h1 : okB a b = true) (h2 : okB c d = false) :
    Calls Tryd.prog 65 #[.pointer (some ⟨k, 0, none⟩)] w fun e w' => e = .returned (.bool false) ∧ Gr w w' := by
  have X := hid x; clear x
  have H1 := hid h1; clear h1
  have H2 := hid h2; clear h2
  go_enter Tryd.func65, Tryd.ntmps65
  go_wp2_with fail
  refine wp_reg0 24 (by kernel_rfl) (by kernel_rfl) ?_
  apply Exists.intro
  refine ⟨fun wb hb => ?_, ?_⟩
  · obtain ⟨_, _, _, _⟩ := hb.at4 X.out
    have h1 := H1.out; have h2 := H2.out
    simp only [headOps, List.contains, List.elem, reduceIte, Bool.false_eq_true]
    repeat (first | go_big_quiet_step (first | (go_at_call 43; exact Calls.of_gr (sok_any _ _ _))) | quiet_step (fail))
    exact wpQuiet_nil rfl
  intro w1 hg1
  have G1 := hid hg1
  clear hg1
  go_wp2
  go_ret
  exact ⟨rfl, G1.out⟩
set_option maxRecDepth 20000 in
set_option maxHeartbeats 400000 in
theorem sSpanAt_yes (a b c d : Int) (w : World) (k : Nat) (x : w.heap[k]? = some (.cells #[.int .i64 a, .int .i64 b, .int .i64 c, .int .i64 d] 49)) (h1 : okB a b = true) (h2 : okB c d = true) :
    Calls Tryd.prog 65 #[.pointer (some ⟨k, 0, none⟩)] w fun e w' => e = .returned (.bool (decide (cmpI a b c d ≤ 0))) ∧ Gr w w' := by
  obtain ⟨b1, b2, b3, b4⟩ := okB_bd h1
  obtain ⟨d1, d2, d3, d4⟩ := okB_bd h2
  have Q0 := hid (mul_bd (x := a) (y := d) b3 b4 (by omega) d2)
  have Q2 := hid (mul_bd (x := c) (y := b) d3 d4 (by omega) b2)
  have X := hid x; clear x
  have H1 := hid h1; clear h1
  have H2 := hid h2; clear h2
  clear b1 b2 b3 b4 d1 d2 d3 d4
  go_enter Tryd.func65, Tryd.ntmps65
  go_wp2_with fail
  refine wp_reg0 24 (by kernel_rfl) (by kernel_rfl) ?_
  apply Exists.intro
  refine ⟨fun wb hb => ?_, ?_⟩
  · obtain ⟨_, _, _, _⟩ := hb.at4 X.out
    have h1 := H1.out; have h2 := H2.out
    simp only [headOps, List.contains, List.elem, reduceIte, Bool.false_eq_true]
    repeat (first | go_big_quiet_step (first | (go_at_call 43; exact Calls.of_gr (sok_any _ _ _)) | (go_at_call 89; exact Calls.of_gr (scmp _ _ _ _ _ Q0.out.1 Q0.out.2 Q2.out.1 Q2.out.2))) | quiet_step (fail))
    exact wpQuiet_nil rfl
  intro w1 hg1
  have G1 := hid hg1
  clear hg1
  go_wp2
  go_ret
  exact ⟨rfl, G1.out⟩
/-- spec.l01Span -/
theorem sSpanAt (a b c d : Int) (w : World) (k : Nat) (x : w.heap[k]? = some (.cells #[.int .i64 a, .int .i64 b, .int .i64 c, .int .i64 d] 49)) :
    Calls Tryd.prog 65 #[.pointer (some ⟨k, 0, none⟩)] w fun e w' => e = .returned (.bool (spB a b c d)) ∧ Gr w w' := by
  unfold spB
  cases h1 : okB a b with
  | false => exact sSpanAt_n1 a b c d w k x h1
  | true =>
    cases h2 : okB c d with
    | false => exact sSpanAt_n2 a b c d w k x h1 h2
    | true => exact sSpanAt_yes a b c d w k x h1 h2
theorem iValidSpan (a b c d : Int) (w : World) :
    Calls Tryd.prog 68 #[sp a b c d] w fun e w' => e = .returned (.bool (spB a b c d)) ∧ Gr w w' := by
  unfold spB
  cases h1 : okB a b with
  | false => exact iSpan_n1 a b c d w h1
  | true =>
    cases h2 : okB c d with
    | false => exact iSpan_n2 a b c d w h1 h2
    | true => exact iSpan_yes a b c d w h1 h2
set_option maxRecDepth 20000 in
set_option maxHeartbeats 400000 in
theorem toSpan_any (a b c d : Int) (w : World) :
    Calls Tryd.prog 38 #[sp a b c d] w fun e w' => e = .returned (sp a b c d) ∧ Gr w w' := by
  go_enter Tryd.func38, Tryd.ntmps38
  go_wp2_with fail
  refine (toFrac_any _ _ _).mono ?_
  rintro e w1 ⟨rfl, hg1⟩
  obtain ⟨x0, x1, x2, hz, G1⟩ := alloc3 hg1
  obtain ⟨_, _, _, _⟩ := cells4 x0
  obtain ⟨_, _, _, _⟩ := cells4 x1
  obtain ⟨_, _, _, _⟩ := cells4 x2
  have _ := fz x1
  have _ := fz x2
  have X0 := hid x0; have X1 := hid x1; have X2 := hid x2
  have G1 := hid G1
  have hz' : w.heap.size + 1 < w1.heap.size := by omega
  have hz'' : w.heap.size < w1.heap.size := by omega
  clear hg1 x0 x1 x2
  go_wp2_with fail
  refine (toFrac_any _ _ _).mono ?_
  rintro e w2 ⟨rfl, hg2⟩
  obtain ⟨_, _⟩ := hg2.same
  have hz2 := hg2.size
  simp at hz2
  have _ : w.heap.size + 1 + 1 < w2.heap.size := by omega
  have _ : w.heap.size + 1 < w2.heap.size := by omega
  have G2 := hid (((G1.out.setCell (by simp; omega) _).setCell (by simp; omega) _).trans hg2)
  clear hg2
  go_wp2_with fail
  refine bodyPost_ret (v := sp a b c d) (by simp [results, Tryd.results38, go_sem, *]) rfl ⟨rfl, ?_⟩
  exact ((((((G2.out).setCell (by simp <;> omega) _).setCell (by simp <;> omega) _).setCell (by simp <;> omega) _).setCell (by simp <;> omega) _).setCell (by simp <;> omega) _).setCell (by simp <;> omega) _
end Go.Proofs.YtkeflpcokcfcjaaDoor
namespace Go.Proofs.YtkeflpcokcfcjaaDoor
open Go.RowKit Go.Sort

/-- What two sums tell together. -/
def bV (n1 d1 n2 d2 : Int) : Value := if okB (redP n1 d1) (redQ n1 d1) && okB (redP n2 d2) (redQ n2 d2) then .tuple #[sp (redP n1 d1) (redQ n1 d1) (redP n2 d2) (redQ n2 d2), .int .i64 0] else .tuple #[sp 0 0 0 0, .int .i64 3]
theorem bV_form (n1 d1 n2 d2 : Int) : ∃ p q p' q' c : Int, bV n1 d1 n2 d2 = .tuple #[sp p q p' q', .int .i64 c] := by
  unfold bV; split <;> exact ⟨_, _, _, _, _, rfl⟩
end Go.Proofs.YtkeflpcokcfcjaaDoor
namespace Go.Proofs.YtkeflpcokcfcjaaDoor
open Go.RowKit Go.Sort

end Go.Proofs.YtkeflpcokcfcjaaDoor
namespace Go.Proofs.YtkeflpcokcfcjaaDoor
open Go.RowKit Go.Sort

theorem iok_t (p q : Int) (w : World) (h : okB p q = true) : Calls Tryd.prog 50 #[fr p q] w fun e w' => e = .returned (.bool true) ∧ Gr w w' :=
  (iok_any p q w).mono fun e w' ⟨he, hg⟩ => ⟨by rw [he, h], hg⟩
theorem iok_f (p q : Int) (w : World) (h : okB p q = false) : Calls Tryd.prog 50 #[fr p q] w fun e w' => e = .returned (.bool false) ∧ Gr w w' :=
  (iok_any p q w).mono fun e w' ⟨he, hg⟩ => ⟨by rw [he, h], hg⟩
theorem iSpan_t (a b c d : Int) (w : World) (h : spB a b c d = true) : Calls Tryd.prog 68 #[sp a b c d] w fun e w' => e = .returned (.bool true) ∧ Gr w w' :=
  (iValidSpan a b c d w).mono fun e w' ⟨he, hg⟩ => ⟨by rw [he, h], hg⟩
theorem iSpan_f (a b c d : Int) (w : World) (h : spB a b c d = false) : Calls Tryd.prog 68 #[sp a b c d] w fun e w' => e = .returned (.bool false) ∧ Gr w w' :=
  (iValidSpan a b c d w).mono fun e w' ⟨he, hg⟩ => ⟨by rw [he, h], hg⟩
theorem sSpan_t (a b c d : Int) (w : World) (k : Nat) (x : w.heap[k]? = some (.cells #[.int .i64 a, .int .i64 b, .int .i64 c, .int .i64 d] 49)) (h : spB a b c d = true) :
    Calls Tryd.prog 65 #[.pointer (some ⟨k, 0, none⟩)] w fun e w' => e = .returned (.bool true) ∧ Gr w w' :=
  (sSpanAt a b c d w k x).mono fun e w' ⟨he, hg⟩ => ⟨by rw [he, h], hg⟩
theorem sSpan_f (a b c d : Int) (w : World) (k : Nat) (x : w.heap[k]? = some (.cells #[.int .i64 a, .int .i64 b, .int .i64 c, .int .i64 d] 49)) (h : spB a b c d = false) :
    Calls Tryd.prog 65 #[.pointer (some ⟨k, 0, none⟩)] w fun e w' => e = .returned (.bool false) ∧ Gr w w' :=
  (sSpanAt a b c d w k x).mono fun e w' ⟨he, hg⟩ => ⟨by rw [he, h], hg⟩
theorem spB_ok {a b c d : Int} (h : spB a b c d = true) : okB a b = true ∧ okB c d = true ∧ cmpI a b c d ≤ 0 := by
  unfold spB at h; simpa [and_assoc] using h
end Go.Proofs.YtkeflpcokcfcjaaDoor
namespace Go.Proofs.YtkeflpcokcfcjaaDoor
open Go.RowKit Go.Sort

theorem okB_neg {p q : Int} (h : okB p q = true) : okB (-p) q = true := by
  rw [okB_iff] at *
  unfold Ok at *
  have e : Int.gcd (-p) q = Int.gcd p q := by simp [Int.gcd]
  omega
end Go.Proofs.YtkeflpcokcfcjaaDoor
namespace Go.Proofs.YtkeflpcokcfcjaaDoor
open Go.RowKit Go.Sort

theorem sok_t (p q : Int) (w : World) (h : okB p q = true) : Calls Tryd.prog 43 #[fr p q] w fun e w' => e = .returned (.bool true) ∧ Gr w w' :=
  (sok_any p q w).mono fun e w' ⟨he, hg⟩ => ⟨by rw [he, h], hg⟩
theorem sok_f (p q : Int) (w : World) (h : okB p q = false) : Calls Tryd.prog 43 #[fr p q] w fun e w' => e = .returned (.bool false) ∧ Gr w w' :=
  (sok_any p q w).mono fun e w' ⟨he, hg⟩ => ⟨by rw [he, h], hg⟩
/-! InSpan -/
def liesB (a b c d p q : Int) : Bool := decide (cmpI a b p q ≤ 0) && decide (cmpI p q c d ≤ 0)
end Go.Proofs.YtkeflpcokcfcjaaDoor
