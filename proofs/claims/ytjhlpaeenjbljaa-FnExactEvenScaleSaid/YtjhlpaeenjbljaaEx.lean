/- SCALES: EvenScale of the program. -/
import Derived.Test.YtjhlpaeenjbljaaEv
import Derived.Test.YtjhlpaeenjbljaaSkh
namespace Go.Proofs.Ytjhlpaeenjbljaa
open Go.RowKit Go.Sort

set_option maxRecDepth 20000 in
set_option maxHeartbeats 1000000 in
theorem iEven_0 (u v m : Int) (w : World) (h : okB u v = false) :
    Calls Try.prog 14 #[fr u v, .int .i64 m] w fun e w' => e = .returned (.tuple #[scl 0 0 none 0 0, .int .i64 1]) ∧ Gr w w' := by
  have h := hid h
  go_enter Try.func14, Try.ntmps14
  go_wp2_with fail
  refine (iok_f _ _ _ h.out).mono ?_
  rintro e w1 ⟨rfl, hg1⟩
  obtain ⟨x1_0, x1_1, hz1, g1⟩ := alloc2 hg1
  obtain ⟨_, _⟩ := cells2 x1_0
  have _ := fz x1_0
  have _ := ltb x1_0
  obtain ⟨_, _, _⟩ := cells3 x1_1
  have _ := fz x1_1
  have _ := ltb x1_1
  have X1_0 := hid x1_0; clear x1_0
  have X1_1 := hid x1_1; clear x1_1
  have G1 := hid (g1)
  clear hg1 g1
  go_wp2
  refine bodyPost_ret (v := .tuple #[scl 0 0 none 0 0, .int .i64 1]) (by simp [results, Try.results14, go_sem, *]) rfl ⟨rfl, ?_⟩
  exact (((G1.out).setCell (by simp <;> omega) _).setCell (by simp <;> omega) _).setCell (by simp <;> omega) _
set_option maxRecDepth 20000 in
set_option maxHeartbeats 1000000 in
theorem iEven_1 (u v m : Int) (w : World) (h : okB u v = true) (h2 : (withinB u v 1000 && inB m 2 60) = false) :
    Calls Try.prog 14 #[fr u v, .int .i64 m] w fun e w' => e = .returned (.tuple #[scl 0 0 none 0 0, .int .i64 2]) ∧ Gr w w' := by
  have HA := hid fun w => iat1000 u v w h
  have HC := hid fun w => iMkCount_gr m w
  unfold withinB at h2
  rw [h, Bool.true_and] at h2
  have h := hid h
  cases h3 : (decide (0 < u) && decide (u ≤ 1000 * v)) with
  | false =>
    rw [h3] at HA
    clear h2 h3 HC
    go_enter Try.func14, Try.ntmps14
    go_wp2_with fail
    refine (iok_t _ _ _ h.out).mono ?_
    rintro e w1 ⟨rfl, hg1⟩
    obtain ⟨x1_0, x1_1, hz1, g1⟩ := alloc2 hg1
    obtain ⟨_, _⟩ := cells2 x1_0
    have _ := fz x1_0
    have _ := ltb x1_0
    obtain ⟨_, _, _⟩ := cells3 x1_1
    have _ := fz x1_1
    have _ := ltb x1_1
    have X1_0 := hid x1_0; clear x1_0
    have X1_1 := hid x1_1; clear x1_1
    have G1 := hid (g1)
    clear hg1 g1
    go_wp2_with fail
    refine (HA.out _).mono ?_
    rintro e w2 ⟨rfl, hg2⟩
    have x2_1 := hg2.keep X1_0.out
    have x2_2 := hg2.keep X1_1.out
    obtain ⟨_, _⟩ := cells2 x2_1
    have _ := fz x2_1
    have _ := ltb x2_1
    obtain ⟨_, _, _⟩ := cells3 x2_2
    have _ := fz x2_2
    have _ := ltb x2_2
    have X2_1 := hid x2_1; clear x2_1
    have X2_2 := hid x2_2; clear x2_2
    have G2 := hid (G1.out.trans hg2)
    clear hg2
    go_wp2
    refine bodyPost_ret (v := .tuple #[scl 0 0 none 0 0, .int .i64 2]) (by simp [results, Try.results14, go_sem, *]) rfl ⟨rfl, ?_⟩
    exact (((G2.out).setCell (by simp <;> omega) _).setCell (by simp <;> omega) _).setCell (by simp <;> omega) _
  | true =>
    rw [h3] at HA
    rw [h3, Bool.true_and] at h2
    rw [h2] at HC
    clear h2 h3
    go_enter Try.func14, Try.ntmps14
    go_wp2_with fail
    refine (iok_t _ _ _ h.out).mono ?_
    rintro e w1 ⟨rfl, hg1⟩
    obtain ⟨x1_0, x1_1, hz1, g1⟩ := alloc2 hg1
    obtain ⟨_, _⟩ := cells2 x1_0
    have _ := fz x1_0
    have _ := ltb x1_0
    obtain ⟨_, _, _⟩ := cells3 x1_1
    have _ := fz x1_1
    have _ := ltb x1_1
    have X1_0 := hid x1_0; clear x1_0
    have X1_1 := hid x1_1; clear x1_1
    have G1 := hid (g1)
    clear hg1 g1
    go_wp2_with fail
    refine (HA.out _).mono ?_
    rintro e w2 ⟨rfl, hg2⟩
    have x2_1 := hg2.keep X1_0.out
    have x2_2 := hg2.keep X1_1.out
    obtain ⟨_, _⟩ := cells2 x2_1
    have _ := fz x2_1
    have _ := ltb x2_1
    obtain ⟨_, _, _⟩ := cells3 x2_2
    have _ := fz x2_2
    have _ := ltb x2_2
    have X2_1 := hid x2_1; clear x2_1
    have X2_2 := hid x2_2; clear x2_2
    have G2 := hid (G1.out.trans hg2)
    clear hg2
    go_wp2_with fail
    refine (HC.out _).mono ?_
    rintro e w3 ⟨rfl, hg3⟩
    have x3_1 := hg3.keep X2_1.out
    have x3_2 := hg3.keep X2_2.out
    obtain ⟨_, _⟩ := cells2 x3_1
    have _ := fz x3_1
    have _ := ltb x3_1
    obtain ⟨_, _, _⟩ := cells3 x3_2
    have _ := fz x3_2
    have _ := ltb x3_2
    have X3_1 := hid x3_1; clear x3_1
    have X3_2 := hid x3_2; clear x3_2
    have G3 := hid (G2.out.trans hg3)
    clear hg3
    go_wp2
    refine bodyPost_ret (v := .tuple #[scl 0 0 none 0 0, .int .i64 2]) (by simp [results, Try.results14, go_sem, *]) rfl ⟨rfl, ?_⟩
    exact (((G3.out).setCell (by simp <;> omega) _).setCell (by simp <;> omega) _).setCell (by simp <;> omega) _
set_option maxRecDepth 20000 in
set_option maxHeartbeats 2000000 in
theorem iEven_2 (u v : Int) (n : Nat) (w : World) (h1 : withinB u v 1000 = true) (h2 : inB (n : Int) 2 60 = true) :
    Calls Try.prog 14 #[fr u v, .int .i64 (n : Int)] w fun e w' => (sclB u v (repV n 0) = true ∧ GivesS w w' e u v (repV n 0) 0) ∨ (sclB u v (repV n 0) = false ∧ GivesS w w' e 0 0 [] 3) := by
  have HC := hid fun w => h2 ▸ iMkCount_gr (n : Int) w
  unfold withinB at h1
  rw [Bool.and_eq_true] at h1
  obtain ⟨h, h3⟩ := h1
  have HA := hid fun w => h3 ▸ iat1000 u v w h
  have h := hid h
  clear h3
  have hn2 : 2 ≤ n ∧ n ≤ 60 := by unfold inB at h2; simp at h2; omega
  obtain ⟨hn, hm⟩ := hn2
  clear h2
  go_enter Try.func14, Try.ntmps14
  go_wp2_with fail
  refine (iok_t _ _ _ h.out).mono ?_
  rintro e w1 ⟨rfl, hg1⟩
  obtain ⟨x1_0, x1_1, hz1, g1⟩ := alloc2 hg1
  obtain ⟨_, _⟩ := cells2 x1_0
  have _ := fz x1_0
  have _ := ltb x1_0
  obtain ⟨_, _, _⟩ := cells3 x1_1
  have _ := fz x1_1
  have _ := ltb x1_1
  have X1_0 := hid x1_0; clear x1_0
  have X1_1 := hid x1_1; clear x1_1
  have G1 := hid (g1)
  clear hg1 g1
  go_wp2_with fail
  refine (HA.out _).mono ?_
  rintro e w2 ⟨rfl, hg2⟩
  have x2_1 := hg2.keep X1_0.out
  have x2_2 := hg2.keep X1_1.out
  obtain ⟨_, _⟩ := cells2 x2_1
  have _ := fz x2_1
  have _ := ltb x2_1
  obtain ⟨_, _, _⟩ := cells3 x2_2
  have _ := fz x2_2
  have _ := ltb x2_2
  have X2_1 := hid x2_1; clear x2_1
  have X2_2 := hid x2_2; clear x2_2
  have G2 := hid (G1.out.trans hg2)
  clear hg2
  go_wp2_with fail
  refine (HC.out _).mono ?_
  rintro e w3 ⟨rfl, hg3⟩
  have x3_1 := hg3.keep X2_1.out
  have x3_2 := hg3.keep X2_2.out
  obtain ⟨_, _⟩ := cells2 x3_1
  have _ := fz x3_1
  have _ := ltb x3_1
  obtain ⟨_, _, _⟩ := cells3 x3_2
  have _ := fz x3_2
  have _ := ltb x3_2
  have X3_1 := hid x3_1; clear x3_1
  have X3_2 := hid x3_2; clear x3_2
  have G3 := hid (G2.out.trans hg3)
  clear hg3
  have HLEN : Hid ((repV n 0).length = n) := hid (by simp [repV_len])
  have hN : (repV n 0).length ≤ 1048576 := by rw [HLEN.out]; omega
  obtain ⟨_, _⟩ := cells2 ((Gr.drew w3).keep X3_1.out)
  cases hsc : sclB u v (repV n 0) with
  | true =>
    have HSC := hid hsc
    have HOR := hid fun (b4 : Nat) (wc : World) (RD : Hid (RdF wc (some ⟨b4, 0, none⟩) (repV n 0))) => HLEN.out ▸ iOr_t 3 u v (some ⟨b4, 0, none⟩) n (repV n 0) wc RD hN hsc
    clear hsc hN
    go_wp2_with fail
    go_region_with (first | (go_at_call 60; refine (fit_ok 0 1 _ (by decide) (by decide)).mono ?_; rintro e wf ⟨rfl, hgf⟩; have GF := hid ((Gr.drew w3).trans hgf); have XF := hid (GF.out.keep X3_1.out); have YF := hid (GF.out.keep X3_2.out); obtain ⟨_, _⟩ := cells2 XF.out; obtain ⟨_, _⟩ := cells2 (((Gr.refl wf).al (.cells #[.int .i64 0, .int .i64 1] 24)).keep XF.out); clear hgf) | (go_at_call 59; refine (iRepeatF _ n 24 _ (hid (alloc1 (w := wf) (A := .cells #[.int .i64 0, .int .i64 1] 24) (Gr.refl _)).1) hn hm).mono ?_; rintro e wc ⟨b4, rfl, hb4, x4, hg4⟩; have GA := hid (((Gr.refl wf).al (.cells #[.int .i64 0, .int .i64 1] 24)).trans hg4); have own : wc.ownsRow wf.heap.size 24 2 (.slice (some ⟨b4, 0, none⟩) n n) n (flatL (repV n 0)) := ⟨by rw [flatL_len, repV_len]; simp, .inr ⟨b4, n, flatA (repV n 0), rfl, Nat.le_trans (by simp) hb4, x4, Nat.le_refl _, by unfold maxLen; omega, by simp [flatA, flatL_len, repV_len], by show (flatL (repV n 0)).take (n * 2) = _; exact List.take_of_length_le (by rw [flatL_len, repV_len]; simp)⟩⟩; have OWN := hid own; have RD := hid (RdF.of_block x4); have XC := hid (GA.out.keep XF.out); have YC := hid (GA.out.keep YF.out); have GC := hid (GF.out.trans GA.out); have hlow : w.heap.size + 1 < wf.heap.size := ltb YF.out; obtain ⟨_, _⟩ := cells2 XC.out; clear hb4 x4 hg4 own) | (go_at_call 58; refine (HOR.out b4 wc RD).mono ?_; rintro e w7 ⟨rfl, hg7⟩; have OWN7 := hid (own_gr OWN.out hg7); have Z7 := hid (hg7.keep YC.out); have G7 := hid (G3.out.trans (GC.out.trans hg7)); clear hg7; obtain ⟨_, _, _⟩ := cells3 Z7.out; have _ := fz Z7.out; have _ := ltb Z7.out))
    all_goals
      go_wp2_with fail
      refine bodyPost_ret (v := .tuple #[scl u v (some ⟨b4, 0, none⟩) n n, .int .i64 0]) (by simp [results, Try.results14, go_sem, *]) rfl ?_
      exact .inl ⟨HSC.out, _, n, by rw [HLEN.out], by rw [HLEN.out]; exact own_base (base' := w.heap.size) (own_low (own_low (own_low OWN7.out (by simpa using hlow) _) (by simpa using hlow) _) (by simpa using hlow) _) (by omega), ((G7.out.setCell (by simp) _).setCell (by simp) _).setCell (by simp) _⟩
  | false =>
    have HSC := hid hsc
    have HOR := hid fun (b4 : Nat) (wc : World) (RD : Hid (RdF wc (some ⟨b4, 0, none⟩) (repV n 0))) => HLEN.out ▸ iOr_f 3 u v (some ⟨b4, 0, none⟩) n (repV n 0) wc RD hN hsc
    clear hsc hN
    go_wp2_with fail
    go_region_with (first | (go_at_call 60; refine (fit_ok 0 1 _ (by decide) (by decide)).mono ?_; rintro e wf ⟨rfl, hgf⟩; have GF := hid ((Gr.drew w3).trans hgf); have XF := hid (GF.out.keep X3_1.out); have YF := hid (GF.out.keep X3_2.out); obtain ⟨_, _⟩ := cells2 XF.out; obtain ⟨_, _⟩ := cells2 (((Gr.refl wf).al (.cells #[.int .i64 0, .int .i64 1] 24)).keep XF.out); clear hgf) | (go_at_call 59; refine (iRepeatF _ n 24 _ (hid (alloc1 (w := wf) (A := .cells #[.int .i64 0, .int .i64 1] 24) (Gr.refl _)).1) hn hm).mono ?_; rintro e wc ⟨b4, rfl, hb4, x4, hg4⟩; have GA := hid (((Gr.refl wf).al (.cells #[.int .i64 0, .int .i64 1] 24)).trans hg4); have own : wc.ownsRow wf.heap.size 24 2 (.slice (some ⟨b4, 0, none⟩) n n) n (flatL (repV n 0)) := ⟨by rw [flatL_len, repV_len]; simp, .inr ⟨b4, n, flatA (repV n 0), rfl, Nat.le_trans (by simp) hb4, x4, Nat.le_refl _, by unfold maxLen; omega, by simp [flatA, flatL_len, repV_len], by show (flatL (repV n 0)).take (n * 2) = _; exact List.take_of_length_le (by rw [flatL_len, repV_len]; simp)⟩⟩; have OWN := hid own; have RD := hid (RdF.of_block x4); have XC := hid (GA.out.keep XF.out); have YC := hid (GA.out.keep YF.out); have GC := hid (GF.out.trans GA.out); have hlow : w.heap.size + 1 < wf.heap.size := ltb YF.out; obtain ⟨_, _⟩ := cells2 XC.out; clear hb4 x4 hg4 own) | (go_at_call 58; refine (HOR.out b4 wc RD).mono ?_; rintro e w7 ⟨rfl, hg7⟩; have OWN7 := hid (own_gr OWN.out hg7); have Z7 := hid (hg7.keep YC.out); have G7 := hid (G3.out.trans (GC.out.trans hg7)); clear hg7; obtain ⟨_, _, _⟩ := cells3 Z7.out; have _ := fz Z7.out; have _ := ltb Z7.out))
    all_goals
      go_wp2_with fail
      refine bodyPost_ret (v := .tuple #[scl 0 0 none 0 0, .int .i64 3]) (by simp [results, Try.results14, go_sem, *]) rfl ?_
      exact .inr ⟨HSC.out, _, _, rfl, own_nilF _ _, ((G7.out.setCell (by simp) _).setCell (by simp) _).setCell (by simp) _⟩
end Go.Proofs.Ytjhlpaeenjbljaa
