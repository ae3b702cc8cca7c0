/- WALKS: HullOf, of the reference; both joined. -/
import Derived.Test.YtmjcnagniphkeaaHu
namespace Go.Proofs.Ytmjcnagniphkeaa
open Go.RowKit Go.Sort

set_option maxRecDepth 20000 in
set_option maxHeartbeats 400000 in
theorem sSpanX_n1 (a b c d : Int) (w : World) (g k : Nat) (x : CelN w ⟨g, k, none⟩ ⟨a, b, c, d⟩) (h1 : okB a b = false) :
    Calls Try.prog 69 #[.pointer (some ⟨g, k, none⟩)] w fun e w' => e = .returned (.bool false) ∧ Gr w w' := by
  have X := hid x; clear x
  have H1 := hid h1; clear h1
  go_enter Try.func69, Try.ntmps69
  go_wp2_with fail
  refine wp_reg0 24 (by kernel_rfl) (by kernel_rfl) ?_
  apply Exists.intro
  refine ⟨fun wb hb => ?_, ?_⟩
  · have _ := hb.atA X.out.h0; have _ := hb.atA X.out.h1; have _ := hb.atA X.out.h2; have _ := hb.atA X.out.h3
    have h1 := H1.out
    simp only [headOps, List.contains, List.elem, reduceIte, Bool.false_eq_true]
    repeat (first | go_big_quiet_step (first | (go_at_call 99; exact Calls.of_gr (sok_any _ _ _))) | quiet_step (fail))
    exact wpQuiet_nil rfl
  intro w1 hg1
  have G1 := hid hg1
  clear hg1
  go_wp2
  go_ret
  exact ⟨rfl, G1.out⟩
set_option maxRecDepth 20000 in
set_option maxHeartbeats 400000 in
theorem sSpanX_n2 (a b c d : Int) (w : World) (g k : Nat) (x : CelN w ⟨g, k, none⟩ ⟨a, b, c, d⟩) (h1 : okB a b = true) (h2 : okB c d = false) :
    Calls Try.prog 69 #[.pointer (some ⟨g, k, none⟩)] w fun e w' => e = .returned (.bool false) ∧ Gr w w' := by
  have X := hid x; clear x
  have H1 := hid h1; clear h1
  have H2 := hid h2; clear h2
  go_enter Try.func69, Try.ntmps69
  go_wp2_with fail
  refine wp_reg0 24 (by kernel_rfl) (by kernel_rfl) ?_
  apply Exists.intro
  refine ⟨fun wb hb => ?_, ?_⟩
  · have _ := hb.atA X.out.h0; have _ := hb.atA X.out.h1; have _ := hb.atA X.out.h2; have _ := hb.atA X.out.h3
    have h1 := H1.out; have h2 := H2.out
    simp only [headOps, List.contains, List.elem, reduceIte, Bool.false_eq_true]
    repeat (first | go_big_quiet_step (first | (go_at_call 99; exact Calls.of_gr (sok_any _ _ _))) | quiet_step (fail))
    exact wpQuiet_nil rfl
  intro w1 hg1
  have G1 := hid hg1
  clear hg1
  go_wp2
  go_ret
  exact ⟨rfl, G1.out⟩
set_option maxRecDepth 20000 in
set_option maxHeartbeats 400000 in
theorem sSpanX_yes (a b c d : Int) (w : World) (g k : Nat) (x : CelN w ⟨g, k, none⟩ ⟨a, b, c, d⟩) (h1 : okB a b = true) (h2 : okB c d = true) :
    Calls Try.prog 69 #[.pointer (some ⟨g, k, none⟩)] w fun e w' => e = .returned (.bool (decide (cmpI a b c d ≤ 0))) ∧ Gr w w' := by
  obtain ⟨b1, b2, b3, b4⟩ := okB_bd h1
  obtain ⟨d1, d2, d3, d4⟩ := okB_bd h2
  have Q0 := hid (mul_bd (x := a) (y := d) b3 b4 (by omega) d2)
  have Q2 := hid (mul_bd (x := c) (y := b) d3 d4 (by omega) b2)
  have X := hid x; clear x
  have H1 := hid h1; clear h1
  have H2 := hid h2; clear h2
  clear b1 b2 b3 b4 d1 d2 d3 d4
  go_enter Try.func69, Try.ntmps69
  go_wp2_with fail
  refine wp_reg0 24 (by kernel_rfl) (by kernel_rfl) ?_
  apply Exists.intro
  refine ⟨fun wb hb => ?_, ?_⟩
  · have _ := hb.atA X.out.h0; have _ := hb.atA X.out.h1; have _ := hb.atA X.out.h2; have _ := hb.atA X.out.h3
    have h1 := H1.out; have h2 := H2.out
    simp only [headOps, List.contains, List.elem, reduceIte, Bool.false_eq_true]
    repeat (first | go_big_quiet_step (first | (go_at_call 99; exact Calls.of_gr (sok_any _ _ _)) | (go_at_call 139; exact Calls.of_gr (scmp _ _ _ _ _ Q0.out.1 Q0.out.2 Q2.out.1 Q2.out.2))) | quiet_step (fail))
    exact wpQuiet_nil rfl
  intro w1 hg1
  have G1 := hid hg1
  clear hg1
  go_wp2
  go_ret
  exact ⟨rfl, G1.out⟩
/-- spec.l01Span -/
theorem sSpanX (a b c d : Int) (w : World) (g k : Nat) (x : CelN w ⟨g, k, none⟩ ⟨a, b, c, d⟩) :
    Calls Try.prog 69 #[.pointer (some ⟨g, k, none⟩)] w fun e w' => e = .returned (.bool (spB a b c d)) ∧ Gr w w' := by
  unfold spB
  cases h1 : okB a b with
  | false => exact sSpanX_n1 a b c d w g k x h1
  | true =>
    cases h2 : okB c d with
    | false => exact sSpanX_n2 a b c d w g k x h1 h2
    | true => exact sSpanX_yes a b c d w g k x h1 h2

theorem sSpanX_is (a b c d : Int) (r : Bool) (w : World) (g k : Nat) (x : Hid (CelN w ⟨g, k, none⟩ ⟨a, b, c, d⟩)) (h : spB a b c d = r) :
    Calls Try.prog 69 #[.pointer (some ⟨g, k, none⟩)] w fun e w' => e = .returned (.bool r) ∧ Gr w w' := h ▸ sSpanX a b c d w g k x.out
set_option maxRecDepth 20000 in
set_option maxHeartbeats 1000000 in
theorem sHull_1 (g : Nat) (xs : List Spv) (w : World) (T : TypeId) (X : Hid (w.heap[g]? = some (.cells (rowN xs []) T))) (hn : xs.length ≤ 1048576) (h : xs.all okN = false) :
    Calls Try.prog 24 #[sl g xs.length] w fun e w' => e = .returned (.tuple #[sp 0 0 0 0, .int .i64 1]) ∧ Gr w w' := by
  have H := hid h; clear h
  go_enter Try.func24, Try.ntmps24
  go_wp2_with fail
  go_loopw [4] (fun u wr => ∃ (k : Nat), u = .int .i64 (k : Int) ∧ k ≤ xs.length ∧ Gr w wr ∧ wr.heap[w.heap.size]? = some (.cells #[.int .i64 0, .int .i64 0, .int .i64 0, .int .i64 0] 36) ∧ (xs.take k).all okN = true) (fun u _ => xs.length - (intOf u).toNat)
  case atStart => exact ⟨0, rfl, by omega, (Gr.refl _).al _, (alloc1 (Gr.refl _)).1, rfl⟩
  case round =>
    obtain ⟨k, rfl, hk, hg, hz, ha⟩ := hrel
    have GW := hid hg; have Z := hid hz; have HA := hid ha
    clear hg hz ha
    by_cases hlt : k < xs.length
    · obtain ⟨⟨p, q, r, s⟩, hx⟩ : ∃ x, xs[k]? = some x := ⟨xs[k], List.getElem?_eq_getElem _⟩
      have CX := hid (celN_of (GW.out.keep X.out) hx)
      have HP := hid hx
      clear hx
      cases hk2 : spB p q r s with
      | true =>
        have HK := hid hk2
        go_wp2_with fail
        refine (sSpanX_is p q r s true _ g (k * 4) CX HK.out).mono ?_
        rintro e w1 ⟨rfl, hg1⟩
        have G1 := hid (GW.out.trans hg1); have Z1 := hid (hg1.keep Z.out)
        clear hg1 hk2
        go_wp2_with fail
        exact ⟨⟨k + 1, by simp, by omega, G1.out, Z1.out, allN_take HP.out HA.out HK.out⟩, by simp [intOf]; omega⟩
      | false =>
        have HK := hid hk2
        go_wp2_with fail
        refine (sSpanX_is p q r s false _ g (k * 4) CX HK.out).mono ?_
        rintro e w1 ⟨rfl, hg1⟩
        have G1 := hid (GW.out.trans hg1); have Z1 := hid (hg1.keep Z.out)
        clear hg1 hk2
        obtain ⟨_, _, _, _⟩ := cells4 Z1.out
        have _ := fz Z1.out
        have _ := ltb Z1.out
        go_wp2
        refine bodyPost_ret (v := .tuple #[sp 0 0 0 0, .int .i64 1]) (by simp [results, Try.results24, go_sem, *]) rfl ⟨rfl, ?_⟩
        exact (((G1.out.setCell (by simp) _).setCell (by simp) _).setCell (by simp) _).setCell (by simp) _
    · exfalso
      have hke : k = xs.length := by omega
      have := HA.out
      rw [hke, List.take_length, H.out] at this
      cases this
set_option maxRecDepth 20000 in
set_option maxHeartbeats 1000000 in
theorem sHull_2 (g : Nat) (xs : List Spv) (w : World) (T : TypeId) (X : Hid (w.heap[g]? = some (.cells (rowN xs []) T))) (hn : xs.length ≤ 1048576) (h : xs.all okN = true) (hl : inB (xs.length : Int) 1 64 = false) :
    Calls Try.prog 24 #[sl g xs.length] w fun e w' => e = .returned (.tuple #[sp 0 0 0 0, .int .i64 2]) ∧ Gr w w' := by
  have H := hid h; have HL := hid hl; clear h hl
  go_enter Try.func24, Try.ntmps24
  go_wp2_with fail
  go_loopw [4] (fun u wr => ∃ (k : Nat), u = .int .i64 (k : Int) ∧ k ≤ xs.length ∧ Gr w wr ∧ wr.heap[w.heap.size]? = some (.cells #[.int .i64 0, .int .i64 0, .int .i64 0, .int .i64 0] 36)) (fun u _ => xs.length - (intOf u).toNat)
  case atStart => exact ⟨0, rfl, by omega, (Gr.refl _).al _, (alloc1 (Gr.refl _)).1⟩
  case round =>
    obtain ⟨k, rfl, hk, hg, hz⟩ := hrel
    have GW := hid hg; have Z := hid hz
    clear hg hz
    by_cases hlt : k < xs.length
    · obtain ⟨⟨p, q, r, s⟩, hx⟩ : ∃ x, xs[k]? = some x := ⟨xs[k], List.getElem?_eq_getElem _⟩
      have CX := hid (celN_of (GW.out.keep X.out) hx)
      have HK := hid (show spB p q r s = true from List.all_eq_true.1 H.out _ (List.mem_of_getElem? hx))
      clear hx
      go_wp2_with fail
      refine (sSpanX_is p q r s true _ g (k * 4) CX HK.out).mono ?_
      rintro e w1 ⟨rfl, hg1⟩
      have G1 := hid (GW.out.trans hg1); have Z1 := hid (hg1.keep Z.out)
      clear hg1
      go_wp2_with fail
      exact ⟨⟨k + 1, by simp, by omega, G1.out, Z1.out⟩, by simp [intOf]; omega⟩
    · obtain ⟨_, _, _, _⟩ := cells4 Z.out
      have _ := fz Z.out
      have _ := ltb Z.out
      go_wp2_with (go_at_call 70; refine (in_any _ _ _ _).mono ?_; rintro e w1 ⟨rfl, rfl⟩; rw [HL.out])
      refine bodyPost_ret (v := .tuple #[sp 0 0 0 0, .int .i64 2]) (by simp [results, Try.results24, go_sem, *]) rfl ⟨rfl, ?_⟩
      exact (((GW.out.setCell (by simp) _).setCell (by simp) _).setCell (by simp) _).setCell (by simp) _
set_option maxRecDepth 20000 in
set_option maxHeartbeats 2000000 in
theorem sHull_ok (g n : Nat) (x0 : Spv) (xs : List Spv) (w : World) (T : TypeId) (X : Hid (w.heap[g]? = some (.cells (rowN xs []) T))) (hx0 : xs[0]? = some x0) (hn : xs.length = n) (h : xs.all okN = true) (hl : inB (n : Int) 1 64 = true) :
    Calls Try.prog 24 #[sl g n] w fun e w' => e = .returned (.tuple #[vN (xs.foldl hlS x0), .int .i64 0]) ∧ Gr w w' := by
  have hl2 := hl
  unfold inB at hl2
  simp at hl2
  obtain ⟨n1, n2⟩ := hl2
  have hok : ∀ x ∈ xs, halfN x := fun x hx => halfN_of (List.all_eq_true.1 h x hx)
  obtain ⟨R, hR⟩ : ∃ R, xs.foldl hlS x0 = R := ⟨_, rfl⟩
  rw [hR]
  obtain ⟨R0, R1, R2, R3⟩ := R
  have H := hid h; have HL := hid hl; have HN := hid hn; have HX0 := hid hx0; have HOK := hid hok; have HR := hid hR
  clear h hl hn hx0 hok hR
  go_enter Try.func24, Try.ntmps24
  go_wp2_with fail
  go_loopw [4] (fun u wr => ∃ (k : Nat), u = .int .i64 (k : Int) ∧ k ≤ n ∧ Gr w wr ∧ wr.heap[w.heap.size]? = some (.cells #[.int .i64 0, .int .i64 0, .int .i64 0, .int .i64 0] 36)) (fun u _ => n - (intOf u).toNat)
  case atStart => exact ⟨0, rfl, by omega, (Gr.refl _).al _, (alloc1 (Gr.refl _)).1⟩
  case round =>
    obtain ⟨k, rfl, hk, hg, hz⟩ := hrel
    have GW := hid hg; have Z := hid hz
    clear hg hz
    by_cases hlt : k < n
    · obtain ⟨⟨p, q, r, s⟩, hx⟩ : ∃ x, xs[k]? = some x := ⟨xs[k]'(by rw [HN.out]; exact hlt), List.getElem?_eq_getElem _⟩
      have CX := hid (celN_of (GW.out.keep X.out) hx)
      have HK := hid (show spB p q r s = true from List.all_eq_true.1 H.out _ (List.mem_of_getElem? hx))
      clear hx
      go_wp2_with fail
      refine (sSpanX_is p q r s true _ g (k * 4) CX HK.out).mono ?_
      rintro e w1 ⟨rfl, hg1⟩
      have G1 := hid (GW.out.trans hg1); have Z1 := hid (hg1.keep Z.out)
      clear hg1
      go_wp2_with fail
      exact ⟨⟨k + 1, by simp, by omega, G1.out, Z1.out⟩, by simp [intOf]; omega⟩
    · obtain ⟨wo, hwo⟩ : ∃ wo, wo = wr := ⟨_, rfl⟩
      subst hwo
      obtain ⟨f0, f1, f2, f3⟩ := celN_of (GW.out.keep X.out) HX0.out
      rw [Nat.zero_mul] at f0 f1 f2 f3
      simp only [Nat.zero_add] at f1 f2 f3
      obtain ⟨A0, A1, A2, A3⟩ := x0
      have hm0 := HOK.out _ (List.mem_of_getElem? HX0.out)
      have HM0 := hid hm0
      have hself := hlS_self ⟨A0, A1, A2, A3⟩
      have hst0 := foldN_take (f := hlS) (x0 := (⟨A0, A1, A2, A3⟩ : Spv)) HX0.out
      rw [List.take_zero, List.foldl_nil, hself] at hst0
      have HST0 := hid hst0
      clear hm0 hself hst0
      have GA := hid (GW.out.al (.cells #[.int .i64 A0, .int .i64 A1, .int .i64 A2, .int .i64 A3] 36))
      have ZA := hid (((Gr.refl wo).al (.cells #[.int .i64 A0, .int .i64 A1, .int .i64 A2, .int .i64 A3] 36)).keep Z.out)
      have YA := hid (alloc1 (Gr.refl (wo.alloc (.cells #[.int .i64 A0, .int .i64 A1, .int .i64 A2, .int .i64 A3] 36)))).1
      have hzl := ltb Z.out
      go_wp2_with (go_at_call 70; refine (in_any _ _ _ _).mono ?_; rintro e w1 ⟨rfl, rfl⟩; rw [HL.out])
      go_loopw [6] (fun u wr => ∃ (k : Nat), u = .int .i64 (k : Int) ∧ 1 ≤ k ∧ k ≤ n ∧ Gr w wr ∧ wr.heap[w.heap.size]? = some (.cells #[.int .i64 0, .int .i64 0, .int .i64 0, .int .i64 0] 36) ∧ wr.heap[wo.heap.size]? = some (.cells #[.int .i64 ((xs.take k).foldl hlS ⟨A0, A1, A2, A3⟩).a, .int .i64 ((xs.take k).foldl hlS ⟨A0, A1, A2, A3⟩).b, .int .i64 ((xs.take k).foldl hlS ⟨A0, A1, A2, A3⟩).c, .int .i64 ((xs.take k).foldl hlS ⟨A0, A1, A2, A3⟩).d] 36) ∧ halfN ((xs.take k).foldl hlS ⟨A0, A1, A2, A3⟩)) (fun u _ => n - (intOf u).toNat)
      case atStart => exact ⟨1, rfl, by omega, by omega, GA.out, ZA.out, by rw [HST0.out]; exact YA.out, by rw [HST0.out]; exact HM0.out⟩
      case round =>
        obtain ⟨j, rfl, hj1, hj, hg, y0, y1, hm⟩ := hrel
        have GR := hid hg; have Y0 := hid y0
        obtain ⟨M, hM⟩ : ∃ M, (xs.take j).foldl hlS ⟨A0, A1, A2, A3⟩ = M := ⟨_, rfl⟩
        rw [hM] at y1 hm
        obtain ⟨a, b, a', b'⟩ := M
        have y1 : wr.heap[wo.heap.size]? = some (.cells #[.int .i64 a, .int .i64 b, .int .i64 a', .int .i64 b'] 36) := y1
        have Y1 := hid y1
        have HM : Hid (okB a b = true ∧ okB a' b' = true) := hid hm
        clear hg hm y0 y1
        by_cases hlt2 : j < n
        · obtain ⟨⟨p, q, r, s⟩, hk0⟩ : ∃ x, xs[j]? = some x := ⟨xs[j]'(by rw [HN.out]; exact hlt2), List.getElem?_eq_getElem _⟩
          have hst := foldN_take (f := hlS) (x0 := (⟨A0, A1, A2, A3⟩ : Spv)) hk0
          rw [hM] at hst
          have HST := hid hst
          have HX : Hid (okB p q = true ∧ okB r s = true) := hid (HOK.out _ (List.mem_of_getElem? hk0))
          have CX := hid (celN_of (GR.out.keep X.out) hk0)
          clear hst hM hk0
          go_wp2_with fail
          refine wp_reg0 17 (by kernel_rfl) (by kernel_rfl) ?_
          apply Exists.intro
          refine ⟨fun wb hb => ?_, ?_⟩
          · obtain ⟨_, _, _, _⟩ := hb.at4 Y1.out
            have _ := hb.atA CX.out.h0; have _ := hb.atA CX.out.h1; have _ := hb.atA CX.out.h2; have _ := hb.atA CX.out.h3
            simp only [headOps, List.contains, List.elem, reduceIte, Bool.false_eq_true]
            repeat (first | go_big_quiet_step (first | (go_at_call 71; exact Calls.of_gr (sless _ _ _ _ _ HM.out.1 HX.out.1)) | (go_at_call 72; exact Calls.of_gr (smore _ _ _ _ _ HM.out.2 HX.out.2))) | quiet_step (fail))
            exact wpQuiet_nil rfl
          intro w3 hg3
          have G3 := hid (GR.out.trans hg3); have Y03 := hid (hg3.keep Y0.out); have Y13 := hid (hg3.keep Y1.out)
          have _ := ltb Y13.out
          have _ := fz Y13.out
          obtain ⟨_, _, _, _⟩ := cells4 Y13.out
          have hne : w.heap.size ≠ wo.heap.size := by omega
          clear hg3
          go_wp2_with fail
          exact ⟨⟨j + 1, by simp, by omega, by omega, (((G3.out.setCell (by simp; omega) _).setCell (by simp; omega) _).setCell (by simp; omega) _).setCell (by simp; omega) _, keepSet' (keepSet' (keepSet' (keepSet' Y03.out (by simpa using hne)) (by simpa using hne)) (by simpa using hne)) (by simpa using hne), by rw [HST.out]; simpa [hlS] using Joins.block_setCell (i := 3) (Joins.block_setCell (i := 2) (Joins.block_setCell (i := 1) (Joins.block_setCell (i := 0) Y13.out _) _) _) _, by rw [HST.out]; exact hlS_ok (m := ⟨a, b, a', b'⟩) (x := ⟨p, q, r, s⟩) HM.out HX.out⟩, by simp [intOf]; omega⟩
        · have hke : (xs.take j).foldl hlS ⟨A0, A1, A2, A3⟩ = xs.foldl hlS ⟨A0, A1, A2, A3⟩ := by rw [List.take_of_length_le (by rw [HN.out]; omega)]
          rw [hM, HR.out] at hke
          cases hke
          clear hM
          have hgs := GR.out.size
          obtain ⟨_, _, _, _⟩ := cells4 Y0.out
          have _ := fz Y0.out
          have _ := ltb Y0.out
          obtain ⟨_, _, _, _⟩ := cells4 Y1.out
          have _ := fz Y1.out
          have _ := ltb Y1.out
          go_wp2
          refine bodyPost_ret (v := .tuple #[sp R0 R1 R2 R3, .int .i64 0]) (by simp [results, Try.results24, go_sem, *]) rfl ⟨rfl, ?_⟩
          exact ((((GR.out).setCell (by simp <;> omega) _).setCell (by simp <;> omega) _).setCell (by simp <;> omega) _).setCell (by simp <;> omega) _
end Go.Proofs.Ytmjcnagniphkeaa
