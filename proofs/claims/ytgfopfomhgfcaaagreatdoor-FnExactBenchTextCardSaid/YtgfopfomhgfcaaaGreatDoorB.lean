/- WALKS: the reference's fractions: valid ones, lowest terms, sums, differences, products, quotients. -/
import Derived.Test.YtgfopfomhgfcaaaGreatDoorB0
namespace Go.Proofs.YtgfopfomhgfcaaaGreatDoor
open Go.RowKit Go.Sort

set_option maxHeartbeats 400000 in
/-- spec.l01Ok -/
theorem sok_any (p q : Int) (w : World) :
    Calls Tryz.prog 89 #[fr p q] w fun e w' => e = .returned (.bool (okB p q)) ∧ Gr w w' := by
  by_cases h1 : inB q 1 1000000000 = true
  · obtain ⟨a1, a2⟩ : 1 ≤ q ∧ q ≤ 1000000000 := by simpa [inB] using h1
    by_cases h2 : inB p (-1000000000) 1000000000 = true
    · obtain ⟨b1, b2⟩ : -1000000000 ≤ p ∧ p ≤ 1000000000 := by simpa [inB] using h2
      have hv : ((((p.natAbs : Int).gcd q : Nat) : Int) == 1) = okB p q := by
        rw [gcd_abs1, Bool.eq_iff_iff, okB_iff]
        unfold Ok
        simp
        omega
      have H1 := hid h1; have H2 := hid h2; have HV := hid hv; clear h1 h2 hv
      go_enter Tryz.func89, Tryz.ntmps89
      go_wp2_with fail
      refine wp_reg0 17 (by kernel_rfl) (by kernel_rfl) ?_
      apply Exists.intro
      refine ⟨fun wb hb => ?_, ?_⟩
      · obtain ⟨_, _⟩ := hb.at2 (alloc1 (Gr.refl _)).1
        have h1 := H1.out; have h2 := H2.out
        simp only [headOps, List.contains, List.elem, reduceIte, Bool.false_eq_true]
        repeat (first | go_big_quiet_step (first | (go_at_call 54; exact Calls.of_same (in_any _ _ _ _)) | (go_at_call 90; exact Calls.of_same (abs_any _ _ (by omega) (by omega))) | (go_at_call 125; exact Calls.of_same (gcd_any _ _ _ (by omega) (by omega) (by omega) (by omega)))) | quiet_step (fail))
        exact wpQuiet_nil rfl
      intro w1 hg1
      go_wp2
      go_ret
      exact ⟨ret_bool HV.out, (Gr.alloc _ _).trans hg1⟩
    · have hv : okB p q = false := by
        rw [okB_false]; unfold Ok; simp [inB] at h2; omega
      have h2 : inB p (-1000000000) 1000000000 = false := by simpa using h2
      have H1 := hid h1; have H2 := hid h2; have HV := hid hv; clear h1 h2 hv
      go_enter Tryz.func89, Tryz.ntmps89
      go_wp2_with fail
      refine wp_reg0 17 (by kernel_rfl) (by kernel_rfl) ?_
      apply Exists.intro
      refine ⟨fun wb hb => ?_, ?_⟩
      · obtain ⟨_, _⟩ := hb.at2 (alloc1 (Gr.refl _)).1
        have h1 := H1.out; have h2 := H2.out
        simp only [headOps, List.contains, List.elem, reduceIte, Bool.false_eq_true]
        repeat (first | go_big_quiet_step (first | (go_at_call 54; exact Calls.of_same (in_any _ _ _ _))) | quiet_step (fail))
        exact wpQuiet_nil rfl
      intro w1 hg1
      go_wp2
      go_ret
      exact ⟨ret_bool HV.out.symm, (Gr.alloc _ _).trans hg1⟩
  · have hv : okB p q = false := by
      rw [okB_false]; unfold Ok; simp [inB] at h1; omega
    have h1 : inB q 1 1000000000 = false := by simpa using h1
    have H1 := hid h1; have HV := hid hv; clear h1 hv
    go_enter Tryz.func89, Tryz.ntmps89
    go_wp2_with fail
    refine wp_reg0 17 (by kernel_rfl) (by kernel_rfl) ?_
    apply Exists.intro
    refine ⟨fun wb hb => ?_, ?_⟩
    · obtain ⟨_, _⟩ := hb.at2 (alloc1 (Gr.refl _)).1
      have h1 := H1.out
      simp only [headOps, List.contains, List.elem, reduceIte, Bool.false_eq_true]
      repeat (first | go_big_quiet_step (first | (go_at_call 54; exact Calls.of_same (in_any _ _ _ _))) | quiet_step (fail))
      exact wpQuiet_nil rfl
    intro w1 hg1
    go_wp2
    go_ret
    exact ⟨ret_bool HV.out.symm, (Gr.alloc _ _).trans hg1⟩

set_option maxHeartbeats 400000 in
theorem sred_po (p q : Int) (w : World) (hq : q ≠ 0) (p1 : -4000000000000000000 ≤ p) (p2 : p ≤ 4000000000000000000) (q1 : -4000000000000000000 ≤ q) (q2 : q ≤ 4000000000000000000)
    (hs : ¬ q < 0) (hk : okB (p.tdiv (Int.gcd p q)) (q.tdiv (Int.gcd p q)) = true) :
    Calls Tryz.prog 158 #[.int .i64 p, .int .i64 q] w fun e w' => e = .returned (.tuple #[fr (p.tdiv (Int.gcd p q)) (q.tdiv (Int.gcd p q)), .int .i64 0]) ∧ Gr w w' := by
  have hg := gcd_pos (p := p) hq
  have hsg := tdiv_sign (p := p) hq
  have hs' : ¬ q.tdiv (Int.gcd p q) < 0 := by rw [hsg]; exact hs
  clear hsg
  have g1 : ((Int.gcd p q : Nat) : Int) ≠ 0 := by omega
  obtain ⟨t1, t2⟩ := tdiv_bd p (Int.gcd p q) 4000000000000000000 p1 p2
  obtain ⟨t3, t4⟩ := tdiv_bd q (Int.gcd p q) 4000000000000000000 q1 q2
  have eg : (p.natAbs : Int).gcd (q.natAbs : Int) = Int.gcd p q := gcd_abs2 p q
  have EG := hid eg; clear eg
  go_enter Tryz.func158, Tryz.ntmps158
  go_wp2_with (first | (go_at_call 90; refine (abs_any _ _ (by omega) (by omega)).mono ?_; rintro e w1 ⟨rfl, rfl⟩) | (go_at_call 125; refine (gcd_any _ _ _ (by omega) (by omega) (by omega) (by omega)).mono ?_; rintro e w1 ⟨rfl, rfl⟩; rw [EG.out]) | (go_at_call 89; refine (sok_any _ _ _).mono ?_; rintro e w1 ⟨rfl, hg1⟩; obtain ⟨x0, x1, hz, G1⟩ := alloc2 hg1; obtain ⟨c0, c1⟩ := cells2 x0; obtain ⟨c2, c3⟩ := cells2 x1; have f0 := fz x0; have G1 := hid G1; clear hg1 x0 x1))
  refine bodyPost_ret (v := .tuple #[fr (p.tdiv (Int.gcd p q)) (q.tdiv (Int.gcd p q)), .int .i64 0]) (by simp [results, Tryz.results158, go_sem, c0, c1]) rfl ⟨rfl, ?_⟩
  exact (G1.out.setCell (by simp) _).setCell (by simp) _

set_option maxHeartbeats 400000 in
theorem sred_pf (p q : Int) (w : World) (hq : q ≠ 0) (p1 : -4000000000000000000 ≤ p) (p2 : p ≤ 4000000000000000000) (q1 : -4000000000000000000 ≤ q) (q2 : q ≤ 4000000000000000000)
    (hs : ¬ q < 0) (hk : okB (p.tdiv (Int.gcd p q)) (q.tdiv (Int.gcd p q)) = false) :
    Calls Tryz.prog 158 #[.int .i64 p, .int .i64 q] w fun e w' => e = .returned (.tuple #[fr (0) (0), .int .i64 3]) ∧ Gr w w' := by
  have hg := gcd_pos (p := p) hq
  have hsg := tdiv_sign (p := p) hq
  have hs' : ¬ q.tdiv (Int.gcd p q) < 0 := by rw [hsg]; exact hs
  clear hsg
  have g1 : ((Int.gcd p q : Nat) : Int) ≠ 0 := by omega
  obtain ⟨t1, t2⟩ := tdiv_bd p (Int.gcd p q) 4000000000000000000 p1 p2
  obtain ⟨t3, t4⟩ := tdiv_bd q (Int.gcd p q) 4000000000000000000 q1 q2
  have eg : (p.natAbs : Int).gcd (q.natAbs : Int) = Int.gcd p q := gcd_abs2 p q
  have EG := hid eg; clear eg
  go_enter Tryz.func158, Tryz.ntmps158
  go_wp2_with (first | (go_at_call 90; refine (abs_any _ _ (by omega) (by omega)).mono ?_; rintro e w1 ⟨rfl, rfl⟩) | (go_at_call 125; refine (gcd_any _ _ _ (by omega) (by omega) (by omega) (by omega)).mono ?_; rintro e w1 ⟨rfl, rfl⟩; rw [EG.out]) | (go_at_call 89; refine (sok_any _ _ _).mono ?_; rintro e w1 ⟨rfl, hg1⟩; obtain ⟨x0, x1, hz, G1⟩ := alloc2 hg1; obtain ⟨c0, c1⟩ := cells2 x0; obtain ⟨c2, c3⟩ := cells2 x1; have f0 := fz x0; have G1 := hid G1; clear hg1 x0 x1))
  refine bodyPost_ret (v := .tuple #[fr (0) (0), .int .i64 3]) (by simp [results, Tryz.results158, go_sem, c0, c1]) rfl ⟨rfl, ?_⟩
  exact (G1.out.setCell (by simp) _).setCell (by simp) _

set_option maxHeartbeats 400000 in
theorem sred_no (p q : Int) (w : World) (hq : q ≠ 0) (p1 : -4000000000000000000 ≤ p) (p2 : p ≤ 4000000000000000000) (q1 : -4000000000000000000 ≤ q) (q2 : q ≤ 4000000000000000000)
    (hs : q < 0) (hk : okB (-(p.tdiv (Int.gcd p q))) (-(q.tdiv (Int.gcd p q))) = true) :
    Calls Tryz.prog 158 #[.int .i64 p, .int .i64 q] w fun e w' => e = .returned (.tuple #[fr (-(p.tdiv (Int.gcd p q))) (-(q.tdiv (Int.gcd p q))), .int .i64 0]) ∧ Gr w w' := by
  have hg := gcd_pos (p := p) hq
  have hsg := tdiv_sign (p := p) hq
  have hs' : q.tdiv (Int.gcd p q) < 0 := by rw [hsg]; exact hs
  clear hsg
  have g1 : ((Int.gcd p q : Nat) : Int) ≠ 0 := by omega
  obtain ⟨t1, t2⟩ := tdiv_bd p (Int.gcd p q) 4000000000000000000 p1 p2
  obtain ⟨t3, t4⟩ := tdiv_bd q (Int.gcd p q) 4000000000000000000 q1 q2
  have eg : (p.natAbs : Int).gcd (q.natAbs : Int) = Int.gcd p q := gcd_abs2 p q
  have EG := hid eg; clear eg
  go_enter Tryz.func158, Tryz.ntmps158
  go_wp2_with (first | (go_at_call 90; refine (abs_any _ _ (by omega) (by omega)).mono ?_; rintro e w1 ⟨rfl, rfl⟩) | (go_at_call 125; refine (gcd_any _ _ _ (by omega) (by omega) (by omega) (by omega)).mono ?_; rintro e w1 ⟨rfl, rfl⟩; rw [EG.out]) | (go_at_call 89; refine (sok_any _ _ _).mono ?_; rintro e w1 ⟨rfl, hg1⟩; obtain ⟨x0, x1, hz, G1⟩ := alloc2 hg1; obtain ⟨c0, c1⟩ := cells2 x0; obtain ⟨c2, c3⟩ := cells2 x1; have f0 := fz x0; have G1 := hid G1; clear hg1 x0 x1))
  refine bodyPost_ret (v := .tuple #[fr (-(p.tdiv (Int.gcd p q))) (-(q.tdiv (Int.gcd p q))), .int .i64 0]) (by simp [results, Tryz.results158, go_sem, c0, c1]) rfl ⟨rfl, ?_⟩
  exact (G1.out.setCell (by simp) _).setCell (by simp) _

set_option maxHeartbeats 400000 in
theorem sred_nf (p q : Int) (w : World) (hq : q ≠ 0) (p1 : -4000000000000000000 ≤ p) (p2 : p ≤ 4000000000000000000) (q1 : -4000000000000000000 ≤ q) (q2 : q ≤ 4000000000000000000)
    (hs : q < 0) (hk : okB (-(p.tdiv (Int.gcd p q))) (-(q.tdiv (Int.gcd p q))) = false) :
    Calls Tryz.prog 158 #[.int .i64 p, .int .i64 q] w fun e w' => e = .returned (.tuple #[fr (0) (0), .int .i64 3]) ∧ Gr w w' := by
  have hg := gcd_pos (p := p) hq
  have hsg := tdiv_sign (p := p) hq
  have hs' : q.tdiv (Int.gcd p q) < 0 := by rw [hsg]; exact hs
  clear hsg
  have g1 : ((Int.gcd p q : Nat) : Int) ≠ 0 := by omega
  obtain ⟨t1, t2⟩ := tdiv_bd p (Int.gcd p q) 4000000000000000000 p1 p2
  obtain ⟨t3, t4⟩ := tdiv_bd q (Int.gcd p q) 4000000000000000000 q1 q2
  have eg : (p.natAbs : Int).gcd (q.natAbs : Int) = Int.gcd p q := gcd_abs2 p q
  have EG := hid eg; clear eg
  go_enter Tryz.func158, Tryz.ntmps158
  go_wp2_with (first | (go_at_call 90; refine (abs_any _ _ (by omega) (by omega)).mono ?_; rintro e w1 ⟨rfl, rfl⟩) | (go_at_call 125; refine (gcd_any _ _ _ (by omega) (by omega) (by omega) (by omega)).mono ?_; rintro e w1 ⟨rfl, rfl⟩; rw [EG.out]) | (go_at_call 89; refine (sok_any _ _ _).mono ?_; rintro e w1 ⟨rfl, hg1⟩; obtain ⟨x0, x1, hz, G1⟩ := alloc2 hg1; obtain ⟨c0, c1⟩ := cells2 x0; obtain ⟨c2, c3⟩ := cells2 x1; have f0 := fz x0; have G1 := hid G1; clear hg1 x0 x1))
  refine bodyPost_ret (v := .tuple #[fr (0) (0), .int .i64 3]) (by simp [results, Tryz.results158, go_sem, c0, c1]) rfl ⟨rfl, ?_⟩
  exact (G1.out.setCell (by simp) _).setCell (by simp) _

/-- spec.l01Reduced -/
theorem sred_any (p q : Int) (w : World) (hq : q ≠ 0) (p1 : -4000000000000000000 ≤ p) (p2 : p ≤ 4000000000000000000) (q1 : -4000000000000000000 ≤ q) (q2 : q ≤ 4000000000000000000) :
    Calls Tryz.prog 158 #[.int .i64 p, .int .i64 q] w fun e w' => e = .returned (.tuple #[fr (rP p q) (rQ p q), .int .i64 (rC p q)]) ∧ Gr w w' := by
  unfold rP rQ rC redP redQ
  by_cases hs : q < 0
  · simp only [if_pos hs]
    cases hk : okB (-(p.tdiv (Int.gcd p q))) (-(q.tdiv (Int.gcd p q))) with
    | true => simp only [if_true]; exact sred_no p q w hq p1 p2 q1 q2 hs hk
    | false => simp only [if_false, Bool.false_eq_true]; exact sred_nf p q w hq p1 p2 q1 q2 hs hk
  · simp only [if_neg hs]
    cases hk : okB (p.tdiv (Int.gcd p q)) (q.tdiv (Int.gcd p q)) with
    | true => simp only [if_true]; exact sred_po p q w hq p1 p2 q1 q2 hs hk
    | false => simp only [if_false, Bool.false_eq_true]; exact sred_pf p q w hq p1 p2 q1 q2 hs hk
end Go.Proofs.YtgfopfomhgfcaaaGreatDoor
