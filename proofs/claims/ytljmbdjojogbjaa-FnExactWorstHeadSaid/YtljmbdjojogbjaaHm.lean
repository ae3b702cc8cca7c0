/- WALKS: WorstHead, of the reference; both. -/
import Derived.Test.YtljmbdjojogbjaaHl
namespace Go.Proofs.Ytljmbdjojogbjaa
open Go.RowKit Go.Sort

theorem gr_in {w wb : World} (hb : Gr w wb) {n : Nat} {os : Array Obj} : Gr w (grow (wb.drewN n) os) := hb.trans ⟨⟨n, os⟩, rfl⟩
theorem codeR_gs {xs : List Int} {e no l : Int} {gs : List Int} : codeR xs e no l gs = if (dkB xs e no && gs.all angB) = true then (if inB l 1 3600 = true then 0 else 2) else 1 := rfl
/-- The worst of the first k angles, as the reference has it. -/
def rV (H : Int → Int) (gs : List Int) (k : Nat) : Int := if k = 0 then -1 else wV H gs k
def rA (H : Int → Int) (gs : List Int) (k : Nat) : Int := if k = 0 then 0 else wA H gs k
theorem rV_bd (H : Int → Int) (gs : List Int) (k : Nat) : -1 ≤ rV H gs k ∧ rV H gs k ≤ 648000 := by
  have := wV_bd H gs k
  unfold rV
  split <;> omega
theorem rV_yes {H : Int → Int} {gs : List Int} {k : Nat} (h : rV H gs k < wOff H (gs.getD k 0)) : rV H gs (k + 1) = wOff H (gs.getD k 0) ∧ rA H gs (k + 1) = gs.getD k 0 := by
  have ho := wOff_bd H (gs.getD k 0)
  unfold rV rA
  rw [if_neg (by omega), if_neg (by omega)]
  by_cases hk : k = 0
  · subst hk
    have w0 : wV H gs 0 = 0 := rfl
    refine ⟨?_, ?_⟩
    · show (if wV H gs 0 < wOff H (gs.getD 0 0) then wOff H (gs.getD 0 0) else wV H gs 0) = _
      split <;> omega
    · show (if wV H gs 0 < wOff H (gs.getD 0 0) then gs.getD 0 0 else wA H gs 0) = _
      split <;> rfl
  · unfold rV at h
    rw [if_neg hk] at h
    exact wV_yes h
theorem rV_no {H : Int → Int} {gs : List Int} {k : Nat} (h : ¬ rV H gs k < wOff H (gs.getD k 0)) : rV H gs (k + 1) = rV H gs k ∧ rA H gs (k + 1) = rA H gs k := by
  have ho := wOff_bd H (gs.getD k 0)
  unfold rV at h
  by_cases hk : k = 0
  · rw [if_pos hk] at h; omega
  · rw [if_neg hk] at h
    have := wV_no h
    unfold rV rA
    rw [if_neg hk, if_neg (by omega), if_neg hk, if_neg (by omega)]
    exact this
theorem rV_end {H : Int → Int} {gs : List Int} {k : Nat} (h : 1 ≤ k) : rV H gs k = wV H gs k ∧ rA H gs k = wA H gs k := by
  unfold rV rA
  exact ⟨if_neg (by omega), if_neg (by omega)⟩
theorem all_takeI {gs : List Int} {k : Nat} {p : Int} {f : Int → Bool} (h : gs[k]? = some p) (b : Bool) : ((b && (gs.take k).all f) && f p) = (b && (gs.take (k + 1)).all f) := by
  rw [List.take_add_one, h]
  simp [Bool.and_assoc]
set_option maxRecDepth 20000 in
set_option maxHeartbeats 1000000 in
theorem sWorst_1 (A A2 : Option Addr) (c c2 : Nat) (xs gs : List Int) (e no l : Int) (w : World) (X : Hid (RdH w A xs)) (X2 : Hid (RdI w A2 gs)) (hn : xs.length ≤ 1048576) (hh : xs.all okH = true) (hm : gs.length ≤ 1048576) (hd : (dkB xs e no && gs.all angB) = false) :
    Calls Try.prog 8 #[dk A xs.length c e no, .slice A2 gs.length c2, .int .i64 l] w fun x w' => x = .returned (.tuple #[.int .i64 0, .int .i64 0, .int .i64 1]) ∧ Gr w w' := by
  have HA := hid fun (w' : World) (b : Nat) (T : TypeId) (XB : Hid (w'.heap[b]? = some (.cells #[.slice A xs.length c, .int .i64 e, .int .i64 no] T))) (hg : Gr w w') => sDkOk b T A c xs e no w' XB (hid (X.out.keep hg)) hn hh
  have HD := hid hd
  clear hh hd
  go_enter Try.func8, Try.ntmps8
  go_wp2_with fail
  refine (HA.out _ _ _ (hid (alloc1 (Gr.refl _)).1) ((Gr.refl w).al _)).mono ?_
  rintro x w1 ⟨rfl, rfl⟩
  go_wp2_with fail
  go_loopw [9, 10] (fun v u wr => ∃ (k : Nat), u = .int .i64 (k : Int) ∧ v = .bool (dkB xs e no && (gs.take k).all angB) ∧ k ≤ gs.length ∧ wr = w.alloc (.cells #[.slice A xs.length c, .int .i64 e, .int .i64 no] 29)) (fun _ u _ => gs.length - (intOf u).toNat)
  case atStart => exact ⟨0, rfl, by simp, by omega, rfl⟩
  case round =>
    obtain ⟨k, rfl, rfl, hk, rfl⟩ := hrel
    by_cases hlt : k < gs.length
    · obtain ⟨p, hp⟩ : ∃ p, gs[k]? = some p := ⟨gs[k], List.getElem?_eq_getElem _⟩
      cases hf : (dkB xs e no && (gs.take k).all angB) with
      | true =>
        have hnx := all_takeI (f := angB) hp (dkB xs e no)
        rw [hf, Bool.true_and] at hnx
        obtain ⟨ad, rfl, c1⟩ := (X2.out.keep ((Gr.refl w).al (.cells #[.slice A xs.length c, .int .i64 e, .int .i64 no] 29))) k p hp
        have HN := hid hnx
        clear hp hnx
        go_wp2_with (go_at_call 26; refine (sang _ _).mono ?_; rintro x w2 ⟨rfl, rfl⟩)
        exact ⟨⟨k + 1, by simp, by rw [HN.out], by omega, by simp⟩, by simp [intOf]; omega⟩
      | false =>
        clear hp
        go_wp2_with fail
        refine bodyPost_ret (v := .tuple #[.int .i64 0, .int .i64 0, .int .i64 1]) (by simp [results, Try.results8, go_sem, *]) rfl ⟨rfl, (Gr.refl w).al _⟩
    · have hke : k = gs.length := by omega
      subst hke
      rw [List.take_length, HD.out]
      go_wp2_with fail
      refine bodyPost_ret (v := .tuple #[.int .i64 0, .int .i64 0, .int .i64 1]) (by simp [results, Try.results8, go_sem, *]) rfl ⟨rfl, (Gr.refl w).al _⟩
set_option maxRecDepth 20000 in
set_option maxHeartbeats 1000000 in
theorem sWorst_2 (A A2 : Option Addr) (c c2 : Nat) (xs gs : List Int) (e no l : Int) (w : World) (X : Hid (RdH w A xs)) (X2 : Hid (RdI w A2 gs)) (hn : xs.length ≤ 1048576) (hh : xs.all okH = true) (hm : gs.length ≤ 1048576) (hd : (dkB xs e no && gs.all angB) = true) (hl : inB l 1 3600 = false) :
    Calls Try.prog 8 #[dk A xs.length c e no, .slice A2 gs.length c2, .int .i64 l] w fun x w' => x = .returned (.tuple #[.int .i64 0, .int .i64 0, .int .i64 2]) ∧ Gr w w' := by
  have HA := hid fun (w' : World) (b : Nat) (T : TypeId) (XB : Hid (w'.heap[b]? = some (.cells #[.slice A xs.length c, .int .i64 e, .int .i64 no] T))) (hg : Gr w w') => sDkOk b T A c xs e no w' XB (hid (X.out.keep hg)) hn hh
  obtain ⟨hd1, hd2⟩ := Bool.and_eq_true_iff.1 hd
  rw [hd1] at HA
  have HG := hid hd2
  clear hh hd hd1 hd2
  go_enter Try.func8, Try.ntmps8
  go_wp2_with fail
  refine (HA.out _ _ _ (hid (alloc1 (Gr.refl _)).1) ((Gr.refl w).al _)).mono ?_
  rintro x w1 ⟨rfl, rfl⟩
  go_wp2_with fail
  go_loopw [9, 10] (fun v u wr => ∃ (k : Nat), u = .int .i64 (k : Int) ∧ v = .bool true ∧ k ≤ gs.length ∧ wr = w.alloc (.cells #[.slice A xs.length c, .int .i64 e, .int .i64 no] 29)) (fun _ u _ => gs.length - (intOf u).toNat)
  case atStart => exact ⟨0, rfl, rfl, by omega, rfl⟩
  case round =>
    obtain ⟨k, rfl, rfl, hk, rfl⟩ := hrel
    by_cases hlt : k < gs.length
    · obtain ⟨p, hp⟩ : ∃ p, gs[k]? = some p := ⟨gs[k], List.getElem?_eq_getElem _⟩
      have hap := allI_get hp HG.out
      obtain ⟨ad, rfl, c1⟩ := (X2.out.keep ((Gr.refl w).al (.cells #[.slice A xs.length c, .int .i64 e, .int .i64 no] 29))) k p hp
      clear hp
      go_wp2_with (go_at_call 26; refine (sang _ _).mono ?_; rintro x w2 ⟨rfl, rfl⟩; rw [hap])
      exact ⟨⟨k + 1, by simp, rfl, by omega, by simp⟩, by simp [intOf]; omega⟩
    · have hke : k = gs.length := by omega
      subst hke
      go_wp2_with (go_at_call 27; refine (in_any _ _ _ _).mono ?_; rintro x w2 ⟨rfl, rfl⟩; first | rw [hl])
      refine bodyPost_ret (v := .tuple #[.int .i64 0, .int .i64 0, .int .i64 2]) (by simp [results, Try.results8, go_sem, *]) rfl ⟨rfl, (Gr.refl w).al _⟩
set_option maxRecDepth 20000 in
set_option maxHeartbeats 1000000 in
theorem sWorst_3 (A A2 : Option Addr) (c c2 : Nat) (xs gs : List Int) (e no l : Int) (w : World) (X : Hid (RdH w A xs)) (X2 : Hid (RdI w A2 gs)) (hn : xs.length ≤ 1048576) (hh : xs.all okH = true) (hm : gs.length ≤ 1048576) (hd : (dkB xs e no && gs.all angB) = true) (hl : inB l 1 3600 = true) (hs : inB (gs.length : Int) 1 72 = false) :
    Calls Try.prog 8 #[dk A xs.length c e no, .slice A2 gs.length c2, .int .i64 l] w fun x w' => x = .returned (.tuple #[.int .i64 0, .int .i64 0, .int .i64 2]) ∧ Gr w w' := by
  have HA := hid fun (w' : World) (b : Nat) (T : TypeId) (XB : Hid (w'.heap[b]? = some (.cells #[.slice A xs.length c, .int .i64 e, .int .i64 no] T))) (hg : Gr w w') => sDkOk b T A c xs e no w' XB (hid (X.out.keep hg)) hn hh
  obtain ⟨hd1, hd2⟩ := Bool.and_eq_true_iff.1 hd
  rw [hd1] at HA
  have HG := hid hd2
  clear hh hd hd1 hd2
  go_enter Try.func8, Try.ntmps8
  go_wp2_with fail
  refine (HA.out _ _ _ (hid (alloc1 (Gr.refl _)).1) ((Gr.refl w).al _)).mono ?_
  rintro x w1 ⟨rfl, rfl⟩
  go_wp2_with fail
  go_loopw [9, 10] (fun v u wr => ∃ (k : Nat), u = .int .i64 (k : Int) ∧ v = .bool true ∧ k ≤ gs.length ∧ wr = w.alloc (.cells #[.slice A xs.length c, .int .i64 e, .int .i64 no] 29)) (fun _ u _ => gs.length - (intOf u).toNat)
  case atStart => exact ⟨0, rfl, rfl, by omega, rfl⟩
  case round =>
    obtain ⟨k, rfl, rfl, hk, rfl⟩ := hrel
    by_cases hlt : k < gs.length
    · obtain ⟨p, hp⟩ : ∃ p, gs[k]? = some p := ⟨gs[k], List.getElem?_eq_getElem _⟩
      have hap := allI_get hp HG.out
      obtain ⟨ad, rfl, c1⟩ := (X2.out.keep ((Gr.refl w).al (.cells #[.slice A xs.length c, .int .i64 e, .int .i64 no] 29))) k p hp
      clear hp
      go_wp2_with (go_at_call 26; refine (sang _ _).mono ?_; rintro x w2 ⟨rfl, rfl⟩; rw [hap])
      exact ⟨⟨k + 1, by simp, rfl, by omega, by simp⟩, by simp [intOf]; omega⟩
    · have hke : k = gs.length := by omega
      subst hke
      go_wp2_with (go_at_call 27; refine (in_any _ _ _ _).mono ?_; rintro x w2 ⟨rfl, rfl⟩; first | rw [hl] | rw [hs])
      refine bodyPost_ret (v := .tuple #[.int .i64 0, .int .i64 0, .int .i64 2]) (by simp [results, Try.results8, go_sem, *]) rfl ⟨rfl, (Gr.refl w).al _⟩
set_option maxRecDepth 20000 in
set_option maxHeartbeats 1000000 in
theorem sWorst_yes (A A2 : Option Addr) (c c2 : Nat) (xs gs : List Int) (e no l : Int) (w : World) (X : Hid (RdH w A xs)) (X2 : Hid (RdI w A2 gs)) (hn : xs.length ≤ 1048576) (hh : xs.all okH = true) (hm : gs.length ≤ 1048576) (hd : (dkB xs e no && gs.all angB) = true) (hl : inB l 1 3600 = true) (hs : inB (gs.length : Int) 1 72 = true) (hR : Rding xs e no l) :
    Calls Try.prog 8 #[dk A xs.length c e no, .slice A2 gs.length c2, .int .i64 l] w fun x w' => x = .returned (.tuple #[.int .i64 (wV (headF xs e no l) gs gs.length), .int .i64 (wA (headF xs e no l) gs gs.length), .int .i64 0]) ∧ Gr w w' := by
  have HA := hid fun (w' : World) (b : Nat) (T : TypeId) (XB : Hid (w'.heap[b]? = some (.cells #[.slice A xs.length c, .int .i64 e, .int .i64 no] T))) (hg : Gr w w') => sDkOk b T A c xs e no w' XB (hid (X.out.keep hg)) hn hh
  have HH := hid fun (a : Int) (w' : World) (b : Nat) (T : TypeId) (a1 : 0 ≤ a) (a2 : a < 1296000) (XB : Hid (w'.heap[b]? = some (.cells #[.slice A xs.length c, .int .i64 e, .int .i64 no] T))) (hg : Gr w w') => sHeadF b T A c xs e no a l w' XB (hid (X.out.keep hg)) hR a1 a2
  have HHB := hid fun a => headF_bd (xs := xs) (e := e) (no := no) (l := l) (a := a)
  generalize headF xs e no l = H at *
  obtain ⟨hd1, hd2⟩ := Bool.and_eq_true_iff.1 hd
  rw [hd1] at HA
  have HG := hid hd2
  clear hh hd hd1 hd2
  have hs1 : 1 ≤ gs.length := by unfold inB at hs; simp at hs; omega
  go_enter Try.func8, Try.ntmps8
  go_wp2_with fail
  refine (HA.out _ _ _ (hid (alloc1 (Gr.refl _)).1) ((Gr.refl w).al _)).mono ?_
  rintro x w1 ⟨rfl, rfl⟩
  go_wp2_with fail
  go_loopw [9, 10] (fun v u wr => ∃ (k : Nat), u = .int .i64 (k : Int) ∧ v = .bool true ∧ k ≤ gs.length ∧ wr = w.alloc (.cells #[.slice A xs.length c, .int .i64 e, .int .i64 no] 29)) (fun _ u _ => gs.length - (intOf u).toNat)
  case atStart => exact ⟨0, rfl, rfl, by omega, rfl⟩
  case round =>
    obtain ⟨k, rfl, rfl, hk, rfl⟩ := hrel
    by_cases hlt : k < gs.length
    · obtain ⟨p, hp⟩ : ∃ p, gs[k]? = some p := ⟨gs[k], List.getElem?_eq_getElem _⟩
      have hap := allI_get hp HG.out
      obtain ⟨ad, rfl, c1⟩ := (X2.out.keep ((Gr.refl w).al (.cells #[.slice A xs.length c, .int .i64 e, .int .i64 no] 29))) k p hp
      clear hp
      go_wp2_with (go_at_call 26; refine (sang _ _).mono ?_; rintro x w2 ⟨rfl, rfl⟩; rw [hap])
      exact ⟨⟨k + 1, by simp, rfl, by omega, by simp⟩, by simp [intOf]; omega⟩
    · have hke : k = gs.length := by omega
      subst hke
      go_wp2_with (go_at_call 27; refine (in_any _ _ _ _).mono ?_; rintro x w2 ⟨rfl, rfl⟩; first | rw [hl] | rw [hs])
      go_loopw [11, 12, 13] (fun v a u wr => ∃ (k : Nat), u = .int .i64 (k : Int) ∧ v = .int .i64 (rV H gs k) ∧ a = .int .i64 (rA H gs k) ∧ k ≤ gs.length ∧ Gr w wr ∧ wr.heap[w.heap.size]? = some (.cells #[.slice A xs.length c, .int .i64 e, .int .i64 no] 29)) (fun _ _ u _ => gs.length - (intOf u).toNat)
      case atStart => exact ⟨0, rfl, rfl, rfl, by omega, (Gr.refl w).al _, (alloc1 (Gr.refl _)).1⟩
      case round =>
        obtain ⟨k, rfl, rfl, rfl, hk, hg, hx⟩ := hrel
        have GG := hid hg; have Y := hid hx
        clear hg hx
        by_cases hlt : k < gs.length
        · obtain ⟨p, hp⟩ : ∃ p, gs[k]? = some p := ⟨gs[k], List.getElem?_eq_getElem _⟩
          obtain ⟨a1, a2⟩ := ang_bd (allI_get hp HG.out)
          obtain ⟨h1, h2⟩ := HHB.out p
          have hgd : gs.getD k 0 = p := by rw [List.getD_eq_getElem?_getD, hp]; rfl
          obtain ⟨ad, rfl, c1⟩ := (X2.out.keep GG.out) k p hp
          obtain ⟨o1, o2⟩ := wOff_bd H p
          have ho := turn_bd p (H p)
          have HAB : Hid (∀ w', Calls Try.prog 28 #[.int .i64 (turnI p (H p))] w' fun x w'' => x = .returned (.int .i64 (wOff H p)) ∧ w' = w'') := hid fun w' => abs_any (turnI p (H p)) w' (by omega) (by omega)
          obtain ⟨v1, v2⟩ := rV_bd H gs k
          have HP := hid hp
          clear hp
          by_cases hxx : rV H gs k < wOff H p
          · have hy := hid (rV_yes (H := H) (gs := gs) (k := k) (by rw [hgd]; exact hxx))
            rw [hgd] at hy
            go_wp2_with fail
            refine wp_reg0 12 (by kernel_rfl) (by kernel_rfl) ?_
            apply Exists.intro
            refine ⟨fun wb hb => ?_, ?_⟩
            · have _ := hb.atA c1
              simp only [headOps, List.contains, List.elem, reduceIte, Bool.false_eq_true]
              repeat (first | go_big_quiet_step (first | (first | (go_at_call 30; exact Calls.of_gr (HH.out p _ _ _ a1 (by omega) (hid ((gr_in hb).keep Y.out)) (GG.out.trans (gr_in hb)))) | (go_at_call 29; exact Calls.of_same (sturn _ _ _ (by omega) (by omega) (by omega) (by omega))) | (go_at_call 28; exact Calls.of_same (HAB.out _)))) | quiet_step (fail))
              exact wpQuiet_nil rfl
            intro w3 hg3
            have G3 := hid (GG.out.trans hg3); have Y3 := hid (hg3.keep Y.out)
            obtain ⟨ad3, e3, c3⟩ := (X2.out.keep G3.out) k p HP.out
            cases e3
            clear hg3
            go_wp2_with fail
            exact ⟨⟨k + 1, by simp, by rw [hy.out.1], by rw [hy.out.2], by omega, G3.out, Y3.out⟩, by simp [intOf]; omega⟩
          · have hy := hid (rV_no (H := H) (gs := gs) (k := k) (by rw [hgd]; exact hxx))
            go_wp2_with fail
            refine wp_reg0 12 (by kernel_rfl) (by kernel_rfl) ?_
            apply Exists.intro
            refine ⟨fun wb hb => ?_, ?_⟩
            · have _ := hb.atA c1
              simp only [headOps, List.contains, List.elem, reduceIte, Bool.false_eq_true]
              repeat (first | go_big_quiet_step (first | (first | (go_at_call 30; exact Calls.of_gr (HH.out p _ _ _ a1 (by omega) (hid ((gr_in hb).keep Y.out)) (GG.out.trans (gr_in hb)))) | (go_at_call 29; exact Calls.of_same (sturn _ _ _ (by omega) (by omega) (by omega) (by omega))) | (go_at_call 28; exact Calls.of_same (HAB.out _)))) | quiet_step (fail))
              exact wpQuiet_nil rfl
            intro w3 hg3
            have G3 := hid (GG.out.trans hg3); have Y3 := hid (hg3.keep Y.out)
            obtain ⟨ad3, e3, c3⟩ := (X2.out.keep G3.out) k p HP.out
            cases e3
            clear hg3
            go_wp2_with fail
            exact ⟨⟨k + 1, by simp, by rw [hy.out.1], by rw [hy.out.2], by omega, G3.out, Y3.out⟩, by simp [intOf]; omega⟩
        · have hke : k = gs.length := by omega
          subst hke
          rw [(rV_end (H := H) (gs := gs) hs1).1, (rV_end (H := H) (gs := gs) hs1).2]
          go_wp2_with fail
          refine bodyPost_ret (v := .tuple #[.int .i64 (wV H gs gs.length), .int .i64 (wA H gs gs.length), .int .i64 0]) (by simp [results, Try.results8, go_sem, *]) rfl ⟨rfl, GG.out⟩
theorem bothWorstHead (xs : List Int) (e no : Int) (gs : List Int) (l : Int) (hn : xs.length ≤ 1048576) (hh : xs.all okH = true) (hm : gs.length ≤ 1048576) : ∃ R0 R1 R2 : Int,
    (∀ (A A2 : Option Addr) (c c2 : Nat) (w : World), xs.length ≤ c → Hid (RdH w A xs) → Hid (RdI w A2 gs) → Calls Try.prog 8 #[dk A xs.length c e no, .slice A2 gs.length c2, .int .i64 l] w fun x w' => x = .returned (.tuple #[.int .i64 R0, .int .i64 R1, .int .i64 R2]) ∧ Gr w w') ∧
    (∀ (A A2 : Option Addr) (c c2 : Nat) (w : World), xs.length ≤ c → Hid (RdH w A xs) → Hid (RdI w A2 gs) → Calls Try.prog 11 #[dk A xs.length c e no, .slice A2 gs.length c2, .int .i64 l] w fun x w' => x = .returned (.tuple #[.int .i64 R0, .int .i64 R1, .int .i64 R2]) ∧ Gr w w') := by
  cases hd : (dkB xs e no && gs.all angB) with
  | false =>
    have hC : codeR xs e no l gs = 1 := by rw [codeR_gs, hd]; rfl
    exact ⟨0, 0, 1, fun A A2 c c2 w _ X X2 => sWorst_1 A A2 c c2 xs gs e no l w X X2 hn hh hm hd, fun A A2 c c2 w _ X X2 => iWorst_code A A2 c c2 xs gs e no l 1 w X X2 hn hh hm hC (by decide)⟩
  | true =>
    cases hl : inB l 1 3600 with
    | false =>
      have hC : codeR xs e no l gs = 2 := by rw [codeR_gs, hd, hl]; rfl
      exact ⟨0, 0, 2, fun A A2 c c2 w _ X X2 => sWorst_2 A A2 c c2 xs gs e no l w X X2 hn hh hm hd hl, fun A A2 c c2 w _ X X2 => iWorst_code A A2 c c2 xs gs e no l 2 w X X2 hn hh hm hC (by decide)⟩
    | true =>
      have hC : codeR xs e no l gs = 0 := by rw [codeR_gs, hd, hl]; rfl
      cases hs : inB (gs.length : Int) 1 72 with
      | false => exact ⟨0, 0, 2, fun A A2 c c2 w _ X X2 => sWorst_3 A A2 c c2 xs gs e no l w X X2 hn hh hm hd hl hs, fun A A2 c c2 w _ X X2 => iWorst_many A A2 c c2 xs gs e no l w X X2 hn hh hm hC hs⟩
      | true =>
        have hW : codeW xs e no l gs = 0 := by unfold codeW; rw [if_pos hC, hs]; rfl
        exact ⟨_, _, 0, fun A A2 c c2 w _ X X2 => sWorst_yes A A2 c c2 xs gs e no l w X X2 hn hh hm hd hl hs (codeR_zero hC).1, fun A A2 c c2 w hc X X2 => iWorst_yes A A2 c c2 xs gs e no l w X X2 hn hh hc hW⟩
end Go.Proofs.Ytljmbdjojogbjaa
