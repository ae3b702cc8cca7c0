/- WALKS: MeanOfTwo, of the program and of the reference; MakeFrac of numbers that are not too great. -/
import Derived.Test.YtlekfoboolemgaaM
import Derived.Test.YtlekfoboolemgaaYa
namespace Go.Proofs.Ytlekfoboolemgaa
open Go.RowKit Go.Sort

/-- MakeFrac, as the reference's reduction. -/
theorem iMakeR (p q : Int) (w : World) (p1 : -1000000000000000000 ≤ p) (p2 : p ≤ 1000000000000000000) (q1 : 1 ≤ q) (q2 : q ≤ 1000000000000000000) :
    Calls Try.prog 67 #[.int .i64 p, .int .i64 q] w fun e w' => e = .returned (.tuple #[fr (rP p q) (rQ p q), .int .i64 (rC p q)]) ∧ Gr w w' := by
  have h1 : gtB p 1000000000000000000 = false := by unfold gtB; simp; omega
  have h2 : gtB q 1000000000000000000 = false := by unfold gtB; simp; omega
  have h3 : ((q : Int) == 0) = false := by simp; omega
  unfold rP rQ rC
  cases hk : okB (redP p q) (redQ p q) with
  | true => simp only [if_true]; exact iMake_ok p q w h1 h2 h3 hk
  | false => simp only [if_false, Bool.false_eq_true]; exact iMake_bad p q w h1 h2 h3 hk
theorem opp_same (s : Int) : wrapI (s - 648000) = wrapI (s + 648000) := by unfold wrapI; omega

set_option maxRecDepth 20000 in
set_option maxHeartbeats 400000 in
theorem iMean2_no (a b : Int) (w : World) (h : (angB a && angB b) = false) :
    Calls Try.prog 36 #[.int .i64 a, .int .i64 b] w fun e w' => e = .returned (.tuple #[fr 0 0, .int .i64 1]) ∧ Gr w w' := by
  cases ha : angB a with
  | true =>
    have hb : angB b = false := by rw [ha] at h; simpa using h
    clear h
    go_enter Try.func36, Try.ntmps36
    go_wp2_with (go_at_call 53; refine (iang _ _).mono ?_; rintro e w1 ⟨rfl, rfl⟩)
    refine bodyPost_ret (v := .tuple #[fr 0 0, .int .i64 1]) (by simp [results, Try.results36, go_sem, *]) rfl ⟨rfl, ?_⟩
    exact Gr.alloc _ _
  | false =>
    clear h
    go_enter Try.func36, Try.ntmps36
    go_wp2_with (go_at_call 53; refine (iang _ _).mono ?_; rintro e w1 ⟨rfl, rfl⟩)
    refine bodyPost_ret (v := .tuple #[fr 0 0, .int .i64 1]) (by simp [results, Try.results36, go_sem, *]) rfl ⟨rfl, ?_⟩
    exact Gr.alloc _ _
set_option maxRecDepth 20000 in
set_option maxHeartbeats 400000 in
theorem sMean2_no (a b : Int) (w : World) (h : (angB a && angB b) = false) :
    Calls Try.prog 35 #[.int .i64 a, .int .i64 b] w fun e w' => e = .returned (.tuple #[fr 0 0, .int .i64 1]) ∧ Gr w w' := by
  cases ha : angB a with
  | true =>
    have hb : angB b = false := by rw [ha] at h; simpa using h
    clear h
    go_enter Try.func35, Try.ntmps35
    go_wp2_with (go_at_call 51; refine (sang _ _).mono ?_; rintro e w1 ⟨rfl, rfl⟩)
    refine bodyPost_ret (v := .tuple #[fr 0 0, .int .i64 1]) (by simp [results, Try.results35, go_sem, *]) rfl ⟨rfl, ?_⟩
    exact Gr.alloc _ _
  | false =>
    clear h
    go_enter Try.func35, Try.ntmps35
    go_wp2_with (go_at_call 51; refine (sang _ _).mono ?_; rintro e w1 ⟨rfl, rfl⟩)
    refine bodyPost_ret (v := .tuple #[fr 0 0, .int .i64 1]) (by simp [results, Try.results35, go_sem, *]) rfl ⟨rfl, ?_⟩
    exact Gr.alloc _ _
/-- Twice the mean of both. -/
def mean2 (a b : Int) : Int := 2 * a + turnI a (wrapI (b + 648000))
set_option maxRecDepth 20000 in
set_option maxHeartbeats 400000 in
theorem iMean2_yes (a b P Q C : Int) (w : World) (ha : angB a = true) (hb : angB b = true) (hm : ∀ w, Calls Try.prog 67 #[.int .i64 (mean2 a b), .int .i64 2] w fun e w' => e = .returned (.tuple #[fr P Q, .int .i64 C]) ∧ Gr w w') :
    Calls Try.prog 36 #[.int .i64 a, .int .i64 b] w fun e w' => e = .returned (.tuple #[fr P Q, .int .i64 C]) ∧ Gr w w' := by
  obtain ⟨_, _⟩ := ang_bd ha
  obtain ⟨_, _⟩ := ang_bd hb
  obtain ⟨_, _⟩ := wrap_bd (b + 648000)
  obtain ⟨_, _⟩ := turn_bd a (wrapI (b + 648000))
  have HM := hid hm; clear hm
  unfold mean2 at HM
  go_enter Try.func36, Try.ntmps36
  go_wp2_with (first | (go_at_call 53; refine (iang _ _).mono ?_; rintro e w1 ⟨rfl, rfl⟩) | (go_at_call 75; refine (iopp _ _ (by omega) (by omega)).mono ?_; rintro e w1 ⟨rfl, rfl⟩) | (go_at_call 54; refine (iturn _ _ _ (by omega) (by omega) (by omega) (by omega)).mono ?_; rintro e w1 ⟨rfl, rfl⟩))
  refine (HM.out _).mono ?_
  rintro e w1 ⟨rfl, hg1⟩
  obtain ⟨x0, _, G1⟩ := alloc1 hg1
  obtain ⟨_, _⟩ := cells2 x0
  have _ := fz x0
  have G1 := hid G1; clear hg1 x0
  go_wp2
  refine bodyPost_ret (v := .tuple #[fr P Q, .int .i64 C]) (by simp [results, Try.results36, go_sem, *]) rfl ⟨rfl, ?_⟩
  exact (G1.out.setCell (by simp) _).setCell (by simp) _
set_option maxRecDepth 20000 in
set_option maxHeartbeats 400000 in
theorem sMean2_yes (a b P Q C : Int) (w : World) (ha : angB a = true) (hb : angB b = true) (hm : ∀ w, Calls Try.prog 65 #[.int .i64 (mean2 a b), .int .i64 2] w fun e w' => e = .returned (.tuple #[fr P Q, .int .i64 C]) ∧ Gr w w') :
    Calls Try.prog 35 #[.int .i64 a, .int .i64 b] w fun e w' => e = .returned (.tuple #[fr P Q, .int .i64 C]) ∧ Gr w w' := by
  obtain ⟨_, _⟩ := ang_bd ha
  obtain ⟨_, _⟩ := ang_bd hb
  obtain ⟨_, _⟩ := wrap_bd (b - 648000)
  obtain ⟨_, _⟩ := turn_bd a (wrapI (b - 648000))
  have HM := hid hm; clear hm
  unfold mean2 at HM
  rw [← opp_same] at HM
  go_enter Try.func35, Try.ntmps35
  go_wp2_with (first | (go_at_call 51; refine (sang _ _).mono ?_; rintro e w1 ⟨rfl, rfl⟩) | (go_at_call 48; refine (swrap _ _ (by omega) (by omega)).mono ?_; rintro e w1 ⟨rfl, rfl⟩) | (go_at_call 52; refine (sturn _ _ _ (by omega) (by omega) (by omega) (by omega)).mono ?_; rintro e w1 ⟨rfl, rfl⟩))
  refine (HM.out _).mono ?_
  rintro e w1 ⟨rfl, hg1⟩
  obtain ⟨x0, _, G1⟩ := alloc1 hg1
  obtain ⟨_, _⟩ := cells2 x0
  have _ := fz x0
  have G1 := hid G1; clear hg1 x0
  go_wp2
  refine bodyPost_ret (v := .tuple #[fr P Q, .int .i64 C]) (by simp [results, Try.results35, go_sem, *]) rfl ⟨rfl, ?_⟩
  exact (G1.out.setCell (by simp) _).setCell (by simp) _
theorem bothMeanOfTwo (a b : Int) : ∃ P Q C : Int,
    (∀ w, Calls Try.prog 35 #[.int .i64 a, .int .i64 b] w fun e w' => e = .returned (.tuple #[fr P Q, .int .i64 C]) ∧ Gr w w') ∧
    (∀ w, Calls Try.prog 36 #[.int .i64 a, .int .i64 b] w fun e w' => e = .returned (.tuple #[fr P Q, .int .i64 C]) ∧ Gr w w') := by
  cases h : (angB a && angB b) with
  | true =>
    have h' : angB a = true ∧ angB b = true := by simpa using h
    obtain ⟨_, _⟩ := ang_bd h'.1
    have := turn_bd a (wrapI (b + 648000))
    have m1 : -1000000000000000000 ≤ mean2 a b := by unfold mean2; omega
    have m2 : mean2 a b ≤ 1000000000000000000 := by unfold mean2; omega
    exact ⟨_, _, _, fun w => sMean2_yes a b _ _ _ w h'.1 h'.2 fun w => sred_any (mean2 a b) 2 w (by omega) (by omega) (by omega) (by omega) (by omega),
      fun w => iMean2_yes a b _ _ _ w h'.1 h'.2 fun w => iMakeR (mean2 a b) 2 w m1 m2 (by omega) (by omega)⟩
  | false => exact ⟨_, _, _, fun w => sMean2_no a b w h, fun w => iMean2_no a b w h⟩
end Go.Proofs.Ytlekfoboolemgaa
