/- WALKS: WarmScale, of the program: what is told. -/
import Derived.Test.YtjhlpaeenjbljaaWb
namespace Go.Proofs.Ytjhlpaeenjbljaa
open Go.RowKit Go.Sort

set_option maxRecDepth 20000 in
set_option maxHeartbeats 400000 in
theorem cwa_x (a b s t : Int) (A : Option Addr) (c k1 k2 : Nat) (xs : List (Int × Int)) (w : World) (T1 T2 : TypeId) (X1 : Hid (w.heap[k1]? = some (.cells #[.int .i64 s, .int .i64 t] T1))) (X2 : Hid (w.heap[k2]? = some (.cells #[.int .i64 a, .int .i64 b, .slice A xs.length c] T2)))
    (hpl : ∀ w, Calls Try.prog 69 #[fr 1 1, fr s t] w fun e w' => (∃ x y, e = .panicked [{ v := .iface 138 (fr x y), recovered := false }]) ∧ Gr w w') :
    Calls Try.prog 68 #[.pointer (some ⟨k1, 0, none⟩), .pointer (some ⟨k2, 0, none⟩)] w fun e w' => (∃ x y, e = .panicked [{ v := .iface 138 (fr x y), recovered := false }]) ∧ Gr w w' := by
  have HPL := hid hpl; clear hpl
  go_enter Try.func68, Try.ntmps68
  obtain ⟨_, _⟩ := cells2 X1.out
  have _ := fz X1.out
  have _ := ltb X1.out
  obtain ⟨_, _, _⟩ := cells3 X2.out
  have _ := fz X2.out
  have _ := ltb X2.out
  go_wp2_with fail
  refine wp_regPa (.cells #[.int .i64 0, .int .i64 0] 24) 2 3 [4] (by kernel_rfl) (by kernel_rfl) rfl (fun _ _ => by kernel_rfl) rfl ?_
  apply Exists.intro
  refine ⟨69, #[fr 1 1, fr s t], fun wb hb => ?_, ?_⟩
  · obtain ⟨y0, _, _⟩ := alloc1 (Gr.refl _)
    obtain ⟨_, _, _⟩ := hb.at3 y0
    clear y0
    obtain ⟨_, _⟩ := hb.at2 (((Gr.refl _).al _).keep X1.out)
    obtain ⟨_, _, _⟩ := hb.at3 (((Gr.refl _).al _).keep X2.out)
    simp only [headOps, List.contains, List.elem, List.length_cons, List.length_nil, Nat.zero_add, Nat.reduceAdd, Nat.reduceBEq, reduceIte, Bool.false_eq_true, dumOp]
    repeat (first | go_big_quiet_step (first | (go_at_call 60; exact Calls.of_gr (wfit11 _))) | quiet_step (fail))
    exact wpQuiet_nil rfl
  refine ⟨fun w' => by kernel_rfl, fun w' hg' => (HPL.out _).mono fun e w2 ⟨⟨x, y, he⟩, hg2⟩ => ⟨_, he, fun a' ha' => ⟨ha', ⟨x, y, rfl⟩, (((Gr.refl w).al _).trans hg').trans hg2⟩⟩⟩
set_option maxRecDepth 20000 in
set_option maxHeartbeats 4000000 in
theorem cwa_p (a b s t S T : Int) (A : Option Addr) (c k1 k2 : Nat) (xs : List (Int × Int)) (w : World) (T1 T2 : TypeId) (X1 : Hid (w.heap[k1]? = some (.cells #[.int .i64 s, .int .i64 t] T1))) (X2 : Hid (w.heap[k2]? = some (.cells #[.int .i64 a, .int .i64 b, .slice A xs.length c] T2))) (X : Hid (RdF w A xs)) (h1 : 1 ≤ xs.length) (hl : xs.length ≤ 64) (hab : okB a b = true) (hx : ∀ (k : Nat) (p q : Int), xs[k]? = some (p, q) → okB p q = true) (hST : okB S T = true)
    (hpl : ∀ w, Calls Try.prog 69 #[fr 1 1, fr s t] w fun e w' => e = .returned (fr S T) ∧ Gr w w') :
    Calls Try.prog 68 #[.pointer (some ⟨k1, 0, none⟩), .pointer (some ⟨k2, 0, none⟩)] w fun e w' => ((AllW S T ((a, b) :: xs) ∧ ∃ A' c', e = .returned (scl (wxP a b S T) (wxQ a b S T) A' xs.length c') ∧ (∀ ad, A' = some ad → w.heap.size ≤ ad.block ∧ ad.block < w'.heap.size) ∧ OwnW w' A' (wxL S T xs)) ∨ (¬ AllW S T ((a, b) :: xs) ∧ ∃ x y, e = .panicked [{ v := .iface 138 (fr x y), recovered := false }])) ∧ Gr w w' := by
  have HPL := hid hpl; have HST := hid hST; clear hpl hST
  obtain ⟨l, hle⟩ : ∃ l, (a, b) :: xs = l := ⟨_, rfl⟩
  have hll : l.length = 1 + xs.length := by rw [← hle]; simp [Nat.add_comm]
  have HLL := hid hll; have HLE := hid hle
  have HOK : Hid (∀ (k : Nat) (p q : Int), l[k]? = some (p, q) → okB p q = true) := hid fun k p q hk => by
    rw [← hle] at hk
    cases k with
    | zero => simp at hk; obtain ⟨rfl, rfl⟩ := hk; exact hab
    | succ k => exact hx k p q (by simpa using hk)
  rw [hle]
  have hfr := fun w X => ifracs a b A c xs w X (by omega)
  rw [hle] at hfr
  have HFR := hid hfr
  clear hx hab hle hll hfr
  go_enter Try.func68, Try.ntmps68
  obtain ⟨_, _⟩ := cells2 X1.out
  have _ := fz X1.out
  have _ := ltb X1.out
  obtain ⟨_, _, _⟩ := cells3 X2.out
  have _ := fz X2.out
  have _ := ltb X2.out
  go_wp2_with fail
  refine wp_reg1 (b0 := .cells #[.int .i64 0, .int .i64 0] 24) 4 3 3 (by kernel_rfl) (by kernel_rfl) rfl rfl (by simp) (fun _ _ => by kernel_rfl) ?_
  apply Exists.intro
  refine ⟨fun wb hb => ?_, ?_⟩
  · obtain ⟨y0, _, _⟩ := alloc1 (Gr.refl _)
    obtain ⟨_, _, _⟩ := hb.at3 y0
    clear y0
    obtain ⟨_, _⟩ := hb.at2 (((Gr.refl _).al _).keep X1.out)
    obtain ⟨_, _, _⟩ := hb.at3 (((Gr.refl _).al _).keep X2.out)
    simp only [headOps, List.contains, List.elem, Nat.reduceAdd, Nat.reduceBEq, reduceIte, Bool.false_eq_true, dumOp]
    repeat (first | go_big_quiet_step (first | (go_at_call 60; exact Calls.of_gr (wfit11 _)) | (go_at_call 69; exact Calls.of_gr (HPL.out _))) | quiet_step (fail))
    exact wpQuiet_nil rfl
  intro w1 b1 hg1 hb1 xb1
  have ga := ((Gr.refl w).al (.cells #[.int .i64 0, .int .i64 0, .slice none 0 0] 27)).trans hg1
  have hb1' : w.heap.size + 1 ≤ b1 := by simpa using hb1
  have GW := hid (((ga.setCell (a := ⟨b1, 0, none⟩) (by simp; omega) (.int .i64 S)).setCell (a := ⟨b1, 1, none⟩) (by simp; omega) (.int .i64 T)))
  have GB := hid (((hg1.setCell (a := ⟨b1, 0, none⟩) (by simp; omega) (.int .i64 S)).setCell (a := ⟨b1, 1, none⟩) (by simp; omega) (.int .i64 T)))
  have XB := hid (set2_new (x := .int .i64 0) (y := .int .i64 0) (a := .int .i64 S) (b := .int .i64 T) xb1)
  have XR := hid (GB.out.keep (alloc1 (w := w) (A := .cells #[.int .i64 0, .int .i64 0, .slice none 0 0] 27) (Gr.refl _)).1)
  obtain ⟨_, _⟩ := cells2 xb1
  have _ := fz xb1
  have _ := ltb xb1
  obtain ⟨_, _, _⟩ := cells3 (GW.out.keep X2.out)
  clear hg1 hb1 xb1 ga GB
  go_wp2_with fail
  refine (HFR.out _ (hid (X.out.keep GW.out))).mono ?_
  rintro e w3 ⟨A3, c3, rfl, own3, hg3⟩
  rw [← HLL.out] at own3
  obtain ⟨gr, rest, rfl, hbr, hgr, hcm, hcl⟩ := own_openF own3 (by rw [HLL.out]; omega)
  have GL := hid hg3; have XL := hid hgr
  have hwg : w1.heap.size ≤ gr := by simpa using hbr
  have hwl : w.heap.size + 1 ≤ gr := by have := GW.out.size; have := ltb XB.out; simp at this; omega
  have HCM := hid hcm; have HCL := hid hcl; have HWL := hid hwl
  clear own3 hg3 hgr hbr hcm hcl hwl
  go_wp2_with fail
  go_loopw [13] (fun u wr => ∃ (k : Nat), u = .int .i64 (k : Int) ∧ k ≤ 1 + xs.length ∧ Gr ((w1.setCell ⟨b1, 0, none⟩ (.int .i64 S)).setCell ⟨b1, 1, none⟩ (.int .i64 T)) wr ∧ wr.heap[gr]? = some (.cells (fracR (wxK S T l k) rest) 24) ∧ (∀ (i : Nat) (p q : Int), i < k → l[i]? = some (p, q) → wxB p q S T = true)) (fun u _ => 1 + xs.length - (intOf u).toNat)
  case atStart => exact ⟨0, rfl, by omega, GL.out, by simpa [wxK] using XL.out, fun i p q h => by omega⟩
  case round =>
    obtain ⟨k, rfl, hk, hg, hx0, hok⟩ := hrel
    have GR := hid hg; have X0 := hid hx0; have HOK2 := hid hok
    have GV := hid (GW.out.trans hg)
    have Y0 := hid (hg.keep XR.out); have YB := hid (hg.keep XB.out)
    clear hg hx0 hok
    by_cases hlt : k < 1 + xs.length
    · obtain ⟨⟨p, q⟩, hp⟩ : ∃ pq, l[k]? = some pq := ⟨l[k]'(by rw [HLL.out]; exact hlt), List.getElem?_eq_getElem _⟩
      have HPQ := hid (HOK.out _ _ _ hp)
      obtain ⟨c1, c2⟩ := fracR_cells X0.out (wxK_get (S := S) (T := T) hp)
      have C1 := hid c1; have C2 := hid c2; have HP := hid hp
      clear c1 c2 hp
      cases hd : wxB p q S T with
      | true =>
        have HD := hid hd
        have hmn := fun w => wtimes_t p q S T w HPQ.out HST.out HD.out
        have hset := wxK_set (S := S) (T := T) HP.out
        obtain ⟨P, hP⟩ : ∃ P, wxP p q S T = P := ⟨_, rfl⟩
        obtain ⟨Q, hQ⟩ : ∃ Q, wxQ p q S T = Q := ⟨_, rfl⟩
        rw [hP, hQ] at hmn hset
        have HMN := hid hmn; have HSET := hid hset
        clear hd hmn hset hP hQ
        go_wp2_with fail
        refine wp_reg0 9 (by kernel_rfl) (by kernel_rfl) ?_
        apply Exists.intro
        refine ⟨fun wb hb => ?_, ?_⟩
        · have _ := hb.atF C1.out; have _ := hb.atF C2.out
          obtain ⟨_, _⟩ := hb.at2 YB.out
          simp only [headOps, List.contains, List.elem, reduceIte, Bool.false_eq_true]
          repeat (first | go_big_quiet_step (first | (go_at_call 71; exact Calls.of_gr (HMN.out _))) | quiet_step (fail))
          exact wpQuiet_nil rfl
        intro w5 hg5
        have X5 := hid (hg5.keep X0.out); have G5 := hid (GR.out.trans hg5)
        obtain ⟨_, _⟩ := fracR_cells X5.out (wxK_get (S := S) (T := T) HP.out)
        have _ := fz X5.out
        have hle : k < (wxK S T l k).length := by rw [wxK_len (by rw [HLL.out]; omega), HLL.out]; exact hlt
        clear hg5
        go_wp2_with fail
        refine ⟨⟨k + 1, by simp, by omega, (G5.out.setCell (by simpa using hwg) _).setCell (by simpa using hwg) _, ?_, fun i p' q' hi hp' => ?_⟩, by simp [intOf]; omega⟩
        · have e1 := fracR_store P Q X5.out hle
          rw [HSET.out] at e1
          exact e1
        · by_cases hik : i = k
          · subst hik
            have e1 := HP.out.symm.trans hp'
            cases e1
            exact HD.out
          · exact HOK2.out i p' q' (by omega) hp'
      | false =>
        have HD := hid hd
        have HMN := hid fun w => wtimes_f p q S T w HPQ.out HST.out HD.out
        have HNA : Hid (¬ AllW S T l) := hid fun h => by have := h k p q HP.out; rw [HD.out] at this; cases this
        clear hd
        go_wp2_with fail
        refine wp_regP 7 [8, 9] (by kernel_rfl) (by kernel_rfl) rfl ?_
        apply Exists.intro
        refine ⟨71, #[fr p q, fr S T], fun wb hb => ?_, ?_⟩
        · have _ := hb.atF C1.out; have _ := hb.atF C2.out
          obtain ⟨_, _⟩ := hb.at2 YB.out
          simp only [headOps, List.contains, List.elem, List.length_cons, List.length_nil, Nat.zero_add, Nat.reduceAdd, Nat.reduceBEq, reduceIte, Bool.false_eq_true, dumOp]
          repeat (first | go_big_quiet_step (first | (fail)) | quiet_step (fail))
          exact wpQuiet_nil rfl
        refine ⟨fun w' => by kernel_rfl, fun w' hg' => (HMN.out w').mono fun e w2 ⟨⟨x, y, he⟩, hg2⟩ => ⟨_, he, fun a' ha' => ⟨ha', .inr ⟨HNA.out, x, y, rfl⟩, (GV.out.trans hg').trans hg2⟩⟩⟩
    · have hke : k = 1 + xs.length := by omega
      subst hke
      have h := X0.out
      rw [← HLL.out, wxK_all] at h
      have h0 : (wxL S T l)[0]? = some (wxP a b S T, wxQ a b S T) := by rw [← HLE.out]; rfl
      have hcl2 : 1 + xs.length ≤ c3 := by have := HCL.out; rw [HLL.out] at this; omega
      have HALL : Hid (AllW S T l) := hid fun k p q hp => HOK2.out k p q (by have := (List.getElem?_eq_some_iff.1 hp).1; rw [HLL.out] at this; exact this) hp
      have HSC := hid fun (w : World) (Z : Hid (w.heap[gr]? = some (.cells (fracR (wxL S T l) rest) 24))) => iscaleOf gr xs.length c3 (wxL S T l) rest _ _ _ w Z h0 h1 (by omega) hcl2 HCM.out
      have XF := hid h
      clear h h0
      go_wp2_with fail
      refine (HSC.out _ XF).mono ?_
      rintro e w6 ⟨rfl, hg6⟩
      have XF6 := hid (hg6.keep XF.out); have Y6 := hid (hg6.keep Y0.out); have G6 := hid (GV.out.trans hg6)
      clear hg6
      obtain ⟨_, _, _⟩ := cells3 Y6.out
      have _ := fz Y6.out
      have _ := ltb Y6.out
      have hgl := ltb XF6.out
      have hwl := HWL.out
      go_wp2_with fail
      refine bodyPost_ret (v := scl (wxP a b S T) (wxQ a b S T) (some ⟨gr, 2, none⟩) xs.length xs.length) (by simp [results, Try.results68, go_sem, *]) rfl ?_
      refine ⟨.inl ⟨HALL.out, some ⟨gr, 2, none⟩, xs.length, rfl, fun ad he => ?_, ?_⟩, ((G6.out.setCell (by simp) _).setCell (by simp) _).setCell (by simp) _⟩
      · cases he
        simp
        omega
      · have hne : ∀ ad : Addr, (some ⟨gr, 2, none⟩ : Option Addr) = some ad → ad.block ≠ w.heap.size := fun ad he => by cases he; simp; omega
        refine OwnW.set (OwnW.set (OwnW.set (.inr ⟨gr, 2, _, rfl, XF6.out, by rw [fracR_size, wxL_len, wxL_len, HLL.out]; omega, fun k p q hk => ?_⟩) hne _) hne _) hne _
        have hk2 : (wxL S T l)[k + 1]? = some (p, q) := by rw [← HLE.out]; exact hk
        have := fracR_get (rest := rest) hk2
        rw [show 2 + k * 2 = (k + 1) * 2 by omega]
        exact this
end Go.Proofs.Ytjhlpaeenjbljaa
