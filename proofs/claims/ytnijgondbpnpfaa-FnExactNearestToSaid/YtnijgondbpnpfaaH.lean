/- WALKS: the four operations that the package exports, and those of the reference. -/
import Derived.Test.YtnijgondbpnpfaaG
import Derived.Test.YtnijgondbpnpfaaB
namespace Go.Proofs.Ytnijgondbpnpfaa
open Go.RowKit Go.Sort

theorem opr_plus_any (a b c d : Int) (w : World) :
    Calls Try.prog 92 #[.int .i64 0, fr a b, fr c d] w fun e w' => e = .returned (.tuple #[fr (oP (okB a b) (okB c d) (a*d+c*b) (b*d)) (oQ (okB a b) (okB c d) (a*d+c*b) (b*d)), .int .i64 (oC (okB a b) (okB c d) (a*d+c*b) (b*d))]) ∧ Gr w w' := by
  unfold oP oQ oC rP rQ rC
  cases h1 : okB a b with
  | false => simpa using opr_plus_i1 a b c d w h1
  | true =>
    cases h2 : okB c d with
    | false => simpa using opr_plus_i2 a b c d w h1 h2
    | true =>
      cases hk : okB (redP (a*d+c*b) (b*d)) (redQ (a*d+c*b) (b*d)) with
      | true => simpa [hk] using opr_plus_ok a b c d w h1 h2 hk
      | false => simpa [hk] using opr_plus_bad a b c d w h1 h2 hk
set_option maxHeartbeats 400000 in
theorem iAddFracs (a b c d : Int) (w : World) :
    Calls Try.prog 34 #[fr a b, fr c d] w fun e w' => e = .returned (.tuple #[fr (oP (okB a b) (okB c d) (a*d+c*b) (b*d)) (oQ (okB a b) (okB c d) (a*d+c*b) (b*d)), .int .i64 (oC (okB a b) (okB c d) (a*d+c*b) (b*d))]) ∧ Gr w w' := by
  go_enter Try.func34, Try.ntmps34
  go_wp2_with fail
  refine (opr_plus_any _ _ _ _ _).mono ?_
  rintro e w1 ⟨rfl, hg1⟩
  obtain ⟨_, _, x2, _, G1⟩ := alloc3 hg1
  obtain ⟨_, _⟩ := cells2 x2
  have _ := fz x2
  have G1 := hid G1
  clear hg1 x2
  go_wp2
  refine bodyPost_ret (v := .tuple #[fr (oP (okB a b) (okB c d) (a*d+c*b) (b*d)) (oQ (okB a b) (okB c d) (a*d+c*b) (b*d)), .int .i64 (oC (okB a b) (okB c d) (a*d+c*b) (b*d))]) (by simp [results, Try.results34, go_sem, *]) rfl ⟨rfl, ?_⟩
  exact (G1.out.setCell (by simp; omega) _).setCell (by simp; omega) _
theorem opr_minus_any (a b c d : Int) (w : World) :
    Calls Try.prog 92 #[.int .i64 1, fr a b, fr c d] w fun e w' => e = .returned (.tuple #[fr (oP (okB a b) (okB c d) (a*d-c*b) (b*d)) (oQ (okB a b) (okB c d) (a*d-c*b) (b*d)), .int .i64 (oC (okB a b) (okB c d) (a*d-c*b) (b*d))]) ∧ Gr w w' := by
  unfold oP oQ oC rP rQ rC
  cases h1 : okB a b with
  | false => simpa using opr_minus_i1 a b c d w h1
  | true =>
    cases h2 : okB c d with
    | false => simpa using opr_minus_i2 a b c d w h1 h2
    | true =>
      cases hk : okB (redP (a*d-c*b) (b*d)) (redQ (a*d-c*b) (b*d)) with
      | true => simpa [hk] using opr_minus_ok a b c d w h1 h2 hk
      | false => simpa [hk] using opr_minus_bad a b c d w h1 h2 hk
set_option maxHeartbeats 400000 in
theorem iSubFracs (a b c d : Int) (w : World) :
    Calls Try.prog 36 #[fr a b, fr c d] w fun e w' => e = .returned (.tuple #[fr (oP (okB a b) (okB c d) (a*d-c*b) (b*d)) (oQ (okB a b) (okB c d) (a*d-c*b) (b*d)), .int .i64 (oC (okB a b) (okB c d) (a*d-c*b) (b*d))]) ∧ Gr w w' := by
  go_enter Try.func36, Try.ntmps36
  go_wp2_with fail
  refine (opr_minus_any _ _ _ _ _).mono ?_
  rintro e w1 ⟨rfl, hg1⟩
  obtain ⟨_, _, x2, _, G1⟩ := alloc3 hg1
  obtain ⟨_, _⟩ := cells2 x2
  have _ := fz x2
  have G1 := hid G1
  clear hg1 x2
  go_wp2
  refine bodyPost_ret (v := .tuple #[fr (oP (okB a b) (okB c d) (a*d-c*b) (b*d)) (oQ (okB a b) (okB c d) (a*d-c*b) (b*d)), .int .i64 (oC (okB a b) (okB c d) (a*d-c*b) (b*d))]) (by simp [results, Try.results36, go_sem, *]) rfl ⟨rfl, ?_⟩
  exact (G1.out.setCell (by simp; omega) _).setCell (by simp; omega) _
theorem opr_times_any (a b c d : Int) (w : World) :
    Calls Try.prog 92 #[.int .i64 2, fr a b, fr c d] w fun e w' => e = .returned (.tuple #[fr (oP (okB a b) (okB c d) (a*c) (b*d)) (oQ (okB a b) (okB c d) (a*c) (b*d)), .int .i64 (oC (okB a b) (okB c d) (a*c) (b*d))]) ∧ Gr w w' := by
  unfold oP oQ oC rP rQ rC
  cases h1 : okB a b with
  | false => simpa using opr_times_i1 a b c d w h1
  | true =>
    cases h2 : okB c d with
    | false => simpa using opr_times_i2 a b c d w h1 h2
    | true =>
      cases hk : okB (redP (a*c) (b*d)) (redQ (a*c) (b*d)) with
      | true => simpa [hk] using opr_times_ok a b c d w h1 h2 hk
      | false => simpa [hk] using opr_times_bad a b c d w h1 h2 hk
set_option maxHeartbeats 400000 in
theorem iMulFracs (a b c d : Int) (w : World) :
    Calls Try.prog 38 #[fr a b, fr c d] w fun e w' => e = .returned (.tuple #[fr (oP (okB a b) (okB c d) (a*c) (b*d)) (oQ (okB a b) (okB c d) (a*c) (b*d)), .int .i64 (oC (okB a b) (okB c d) (a*c) (b*d))]) ∧ Gr w w' := by
  go_enter Try.func38, Try.ntmps38
  go_wp2_with fail
  refine (opr_times_any _ _ _ _ _).mono ?_
  rintro e w1 ⟨rfl, hg1⟩
  obtain ⟨_, _, x2, _, G1⟩ := alloc3 hg1
  obtain ⟨_, _⟩ := cells2 x2
  have _ := fz x2
  have G1 := hid G1
  clear hg1 x2
  go_wp2
  refine bodyPost_ret (v := .tuple #[fr (oP (okB a b) (okB c d) (a*c) (b*d)) (oQ (okB a b) (okB c d) (a*c) (b*d)), .int .i64 (oC (okB a b) (okB c d) (a*c) (b*d))]) (by simp [results, Try.results38, go_sem, *]) rfl ⟨rfl, ?_⟩
  exact (G1.out.setCell (by simp; omega) _).setCell (by simp; omega) _
theorem opr_over_any (a b c d : Int) (w : World) :
    Calls Try.prog 92 #[.int .i64 3, fr a b, fr c d] w fun e w' => e = .returned (.tuple #[fr (zP (okB a b) (okB c d) c (a*d) (b*c)) (zQ (okB a b) (okB c d) c (a*d) (b*c)), .int .i64 (zC (okB a b) (okB c d) c (a*d) (b*c))]) ∧ Gr w w' := by
  unfold zP zQ zC oP oQ rP rQ rC
  cases h1 : okB a b with
  | false => simpa using opr_over_i1 a b c d w h1
  | true =>
    cases h2 : okB c d with
    | false => simpa using opr_over_i2 a b c d w h1 h2
    | true =>
      by_cases hz : c = 0
      · subst hz
        simpa using opr_over_zero a b d w h1 h2
      · cases hk : okB (redP (a*d) (b*c)) (redQ (a*d) (b*c)) with
        | true => simpa [hz, hk] using opr_over_ok a b c d w h1 h2 hz hk
        | false => simpa [hz, hk] using opr_over_bad a b c d w h1 h2 hz hk
set_option maxHeartbeats 400000 in
theorem iDivFracs (a b c d : Int) (w : World) :
    Calls Try.prog 40 #[fr a b, fr c d] w fun e w' => e = .returned (.tuple #[fr (zP (okB a b) (okB c d) c (a*d) (b*c)) (zQ (okB a b) (okB c d) c (a*d) (b*c)), .int .i64 (zC (okB a b) (okB c d) c (a*d) (b*c))]) ∧ Gr w w' := by
  go_enter Try.func40, Try.ntmps40
  go_wp2_with fail
  refine (opr_over_any _ _ _ _ _).mono ?_
  rintro e w1 ⟨rfl, hg1⟩
  obtain ⟨_, _, x2, _, G1⟩ := alloc3 hg1
  obtain ⟨_, _⟩ := cells2 x2
  have _ := fz x2
  have G1 := hid G1
  clear hg1 x2
  go_wp2
  refine bodyPost_ret (v := .tuple #[fr (zP (okB a b) (okB c d) c (a*d) (b*c)) (zQ (okB a b) (okB c d) c (a*d) (b*c)), .int .i64 (zC (okB a b) (okB c d) c (a*d) (b*c))]) (by simp [results, Try.results40, go_sem, *]) rfl ⟨rfl, ?_⟩
  exact (G1.out.setCell (by simp; omega) _).setCell (by simp; omega) _
set_option maxHeartbeats 400000 in
theorem stwo (a b c d : Int) (w : World) :
    Calls Try.prog 90 #[fr a b, fr c d] w fun e w' => e = .returned (.int .i64 (if okB a b && okB c d then 0 else 1)) ∧ Gr w w' := by
  cases h1 : okB a b with
  | false =>
    go_enter Try.func90, Try.ntmps90
    go_wp2_with (go_at_call 79; refine (sok_any _ _ _).mono ?_; rintro e w1 ⟨rfl, hg1⟩; obtain ⟨_, _, _, G1⟩ := alloc2 hg1; have G1 := hid G1; clear hg1)
    go_ret
    exact ⟨by simp, G1.out⟩
  | true =>
    cases h2 : okB c d with
    | false =>
      go_enter Try.func90, Try.ntmps90
      go_wp2_with fail
      refine (sok_any _ _ _).mono ?_
      rintro e w1 ⟨rfl, hg1⟩
      obtain ⟨_, x1, _, G1⟩ := alloc2 hg1
      obtain ⟨_, _⟩ := cells2 x1
      have G1 := hid G1
      clear hg1 x1
      go_wp2_with (go_at_call 79; refine (sok_any _ _ _).mono ?_; rintro e w2 ⟨rfl, hg2⟩; have G2 := hid (G1.out.trans hg2); clear hg2)
      go_ret
      exact ⟨by simp, G2.out⟩
    | true =>
      go_enter Try.func90, Try.ntmps90
      go_wp2_with fail
      refine (sok_any _ _ _).mono ?_
      rintro e w1 ⟨rfl, hg1⟩
      obtain ⟨_, x1, _, G1⟩ := alloc2 hg1
      obtain ⟨_, _⟩ := cells2 x1
      have G1 := hid G1
      clear hg1 x1
      go_wp2_with (go_at_call 79; refine (sok_any _ _ _).mono ?_; rintro e w2 ⟨rfl, hg2⟩; have G2 := hid (G1.out.trans hg2); clear hg2)
      go_ret
      exact ⟨by simp, G2.out⟩
set_option maxHeartbeats 400000 in
theorem sneg (a b : Int) (w : World) (h1 : -1000000000 ≤ a) (h2 : a ≤ 1000000000) :
    Calls Try.prog 140 #[fr a b] w fun e w' => e = .returned (fr (-a) b) ∧ Gr w w' := by
  go_enter Try.func140, Try.ntmps140
  go_wp2
  refine bodyPost_ret (v := fr (-a) b) (by simp [results, Try.results140, go_sem]) rfl ⟨rfl, ?_⟩
  exact (Gr.alloc _ _).trans (Gr.alloc _ _)
end Go.Proofs.Ytnijgondbpnpfaa
