/- WALKS: closing errors that are shared out evenly, of the program. -/
import Derived.Test.YteeadoglbkociaaIe
import Derived.Test.YteeadoglbkociaaEf
import Derived.Test.YteeadoglbkociaaMk
namespace Go.Proofs.Yteeadoglbkociaa
open Go.RowKit Go.Sort

def evs (s t : Int) (xs : List (Int × Int)) : List (Int × Int) := xs.map fun x => (sbP x.1 x.2 s t, sbQ x.1 x.2 s t)
def AllE (s t : Int) (xs : List (Int × Int)) : Prop := ∀ (k : Nat) (p q : Int), xs[k]? = some (p, q) → sbB p q s t = true
theorem evs_len (s t : Int) (xs : List (Int × Int)) : (evs s t xs).length = xs.length := by simp [evs]
theorem evs_get {s t : Int} {xs : List (Int × Int)} {k : Nat} {p q : Int} (h : xs[k]? = some (p, q)) : (evs s t xs)[k]? = some (sbP p q s t, sbQ p q s t) := by simp [evs, h]
theorem evs_take {s t : Int} {xs : List (Int × Int)} {k : Nat} {p q : Int} (h : xs[k]? = some (p, q)) : (evs s t xs).take (k + 1) = (evs s t xs).take k ++ [(sbP p q s t, sbQ p q s t)] := by
  rw [List.take_add_one, evs_get h]
  rfl
/-- The numbers, the first k of them with the share taken away. -/
def yse (s t : Int) (xs : List (Int × Int)) (k : Nat) : List (Int × Int) := (evs s t xs).take k ++ xs.drop k
theorem yse_len {s t : Int} {xs : List (Int × Int)} {k : Nat} (h : k ≤ xs.length) : (yse s t xs k).length = xs.length := by simp [yse, evs_len]; omega
theorem yse_get {s t : Int} {xs : List (Int × Int)} {k : Nat} {p q : Int} (h : xs[k]? = some (p, q)) : (yse s t xs k)[k]? = some (p, q) := by
  have hk : k < xs.length := (List.getElem?_eq_some_iff.1 h).1
  have hl : ((evs s t xs).take k).length = k := by simp [evs_len]; omega
  unfold yse
  rw [List.getElem?_append_right (by omega), hl, Nat.sub_self, List.getElem?_drop]
  simpa using h
theorem yse_set {s t : Int} {xs : List (Int × Int)} {k : Nat} {p q : Int} (h : xs[k]? = some (p, q)) : (yse s t xs k).set k (sbP p q s t, sbQ p q s t) = yse s t xs (k + 1) := by
  have hk : k < xs.length := (List.getElem?_eq_some_iff.1 h).1
  have hl : ((evs s t xs).take k).length = k := by simp [evs_len]; omega
  unfold yse
  rw [List.set_append_right _ _ (by omega), hl, Nat.sub_self, evs_take h, List.drop_eq_getElem_cons hk, List.set_cons_zero]
  simp
theorem allF_get2 {xs : List (Int × Int)} {k : Nat} {p q : Int} (h : allF xs = true) (hk : xs[k]? = some (p, q)) : okB p q = true := by
  unfold allF at h
  exact List.all_eq_true.1 h (p, q) (List.mem_of_getElem? hk)
theorem yse_all {s t : Int} {xs : List (Int × Int)} : yse s t xs xs.length = evs s t xs := by
  unfold yse
  rw [List.take_of_length_le (by rw [evs_len]; exact Nat.le_refl _)]
  simp
section
set_option maxRecDepth 20000 in
set_option maxHeartbeats 400000 in
theorem cse_1 (g k1 k2 : Nat) (xs : List (Int × Int)) (t0 t1 : Int) (T1 : TypeId) (w : World) (X1 : Hid (w.heap[k1]? = some (.cells #[sl g xs.length] T1))) (X2 : Hid (w.heap[k2]? = some (.cells #[.int .i64 t0, .int .i64 t1] 25)))
    (hS : ∀ w', Gr w w' → Calls Try.prog 106 #[sl g xs.length] w' fun e w'' => (∃ x y, e = .panicked [{ v := .iface 187 (fr x y), recovered := false }]) ∧ Gr w' w'') :
    Calls Try.prog 105 #[.pointer (some ⟨k1, 0, none⟩), .pointer (some ⟨k2, 0, none⟩)] w fun e w' => (∃ x y, e = .panicked [{ v := .iface 187 (fr x y), recovered := false }]) ∧ Gr w w' := by
  have HS := hid hS; clear hS
  go_enter Try.func105, Try.ntmps105
  have _ := cells1 X1.out
  have _ := fz X1.out
  have _ := ltb X1.out
  obtain ⟨_, _⟩ := cells2 X2.out
  have _ := fz X2.out
  have _ := ltb X2.out
  go_wp2_with fail
  refine wp_regPa (.cells #[.int .i64 0, .int .i64 0] 25) 1 7 [3, 6, 8] (by kernel_rfl) (by kernel_rfl) rfl (fun _ _ => by kernel_rfl) rfl ?_
  apply Exists.intro
  refine ⟨106, #[sl g xs.length], fun wb hb => ?_, ?_⟩
  · have _ := hb.at1 X1.out
    obtain ⟨_, _⟩ := hb.at2 X2.out
    simp only [headOps, List.contains, List.elem, List.length_cons, List.length_nil, Nat.zero_add, Nat.reduceAdd, Nat.reduceBEq, reduceIte, Bool.false_eq_true, dumOp]
    repeat (first | go_big_quiet_step (first | (fail)) | quiet_step (fail))
    exact wpQuiet_nil rfl
  refine ⟨fun w' => by kernel_rfl, fun w' hg' => (HS.out w' hg').mono fun e w2 ⟨⟨x, y, he⟩, hg2⟩ => ⟨_, he, fun a' ha' => ⟨ha', ⟨x, y, rfl⟩, hg'.trans hg2⟩⟩⟩
set_option maxRecDepth 20000 in
set_option maxHeartbeats 400000 in
theorem cse_2 (g k1 k2 : Nat) (xs : List (Int × Int)) (t0 t1 u0 u1 : Int) (T1 : TypeId) (w : World) (X1 : Hid (w.heap[k1]? = some (.cells #[sl g xs.length] T1))) (X2 : Hid (w.heap[k2]? = some (.cells #[.int .i64 t0, .int .i64 t1] 25)))
    (hS : ∀ w', Gr w w' → Calls Try.prog 106 #[sl g xs.length] w' fun e w'' => e = .returned (fr u0 u1) ∧ Gr w' w'')
    (hM : ∀ w, Calls Try.prog 107 #[fr u0 u1, fr t0 t1] w fun e w' => (∃ x y, e = .panicked [{ v := .iface 187 (fr x y), recovered := false }]) ∧ Gr w w') :
    Calls Try.prog 105 #[.pointer (some ⟨k1, 0, none⟩), .pointer (some ⟨k2, 0, none⟩)] w fun e w' => (∃ x y, e = .panicked [{ v := .iface 187 (fr x y), recovered := false }]) ∧ Gr w w' := by
  have HS := hid hS; have HM := hid hM; clear hS hM
  go_enter Try.func105, Try.ntmps105
  have _ := cells1 X1.out
  have _ := fz X1.out
  have _ := ltb X1.out
  obtain ⟨_, _⟩ := cells2 X2.out
  have _ := fz X2.out
  have _ := ltb X2.out
  go_wp2_with fail
  refine wp_regPa (.cells #[.int .i64 0, .int .i64 0] 25) 3 7 [6, 8] (by kernel_rfl) (by kernel_rfl) rfl (fun _ _ => by kernel_rfl) rfl ?_
  apply Exists.intro
  refine ⟨107, #[fr u0 u1, fr t0 t1], fun wb hb => ?_, ?_⟩
  · have _ := hb.at1 X1.out
    obtain ⟨_, _⟩ := hb.at2 X2.out
    simp only [headOps, List.contains, List.elem, List.length_cons, List.length_nil, Nat.zero_add, Nat.reduceAdd, Nat.reduceBEq, reduceIte, Bool.false_eq_true, dumOp]
    repeat (first | go_big_quiet_step (first | (first | (go_at_call 106; exact Calls.of_gr (HS.out _ (hb.trans ⟨⟨_, _⟩, rfl⟩))))) | quiet_step (fail))
    exact wpQuiet_nil rfl
  refine ⟨fun w' => by kernel_rfl, fun w' hg' => (HM.out w').mono fun e w2 ⟨⟨x, y, he⟩, hg2⟩ => ⟨_, he, fun a' ha' => ⟨ha', ⟨x, y, rfl⟩, hg'.trans hg2⟩⟩⟩
set_option maxRecDepth 20000 in
set_option maxHeartbeats 400000 in
theorem cse_3 (g k1 k2 : Nat) (xs : List (Int × Int)) (t0 t1 u0 u1 d0 d1 : Int) (T1 : TypeId) (w : World) (X1 : Hid (w.heap[k1]? = some (.cells #[sl g xs.length] T1))) (X2 : Hid (w.heap[k2]? = some (.cells #[.int .i64 t0, .int .i64 t1] 25)))
    (hS : ∀ w', Gr w w' → Calls Try.prog 106 #[sl g xs.length] w' fun e w'' => e = .returned (fr u0 u1) ∧ Gr w' w'')
    (hM : ∀ w, Calls Try.prog 107 #[fr u0 u1, fr t0 t1] w fun e w' => e = .returned (fr d0 d1) ∧ Gr w w')
    (hO : ∀ w, Calls Try.prog 108 #[fr d0 d1, .int .i64 (xs.length : Int)] w fun e w' => (∃ x y, e = .panicked [{ v := .iface 187 (fr x y), recovered := false }]) ∧ Gr w w') :
    Calls Try.prog 105 #[.pointer (some ⟨k1, 0, none⟩), .pointer (some ⟨k2, 0, none⟩)] w fun e w' => (∃ x y, e = .panicked [{ v := .iface 187 (fr x y), recovered := false }]) ∧ Gr w w' := by
  have HS := hid hS; have HM := hid hM; have HO := hid hO; clear hS hM hO
  go_enter Try.func105, Try.ntmps105
  have _ := cells1 X1.out
  have _ := fz X1.out
  have _ := ltb X1.out
  obtain ⟨_, _⟩ := cells2 X2.out
  have _ := fz X2.out
  have _ := ltb X2.out
  go_wp2_with fail
  refine wp_regPa (.cells #[.int .i64 0, .int .i64 0] 25) 6 7 [8] (by kernel_rfl) (by kernel_rfl) rfl (fun _ _ => by kernel_rfl) rfl ?_
  apply Exists.intro
  refine ⟨108, #[fr d0 d1, .int .i64 (xs.length : Int)], fun wb hb => ?_, ?_⟩
  · have _ := hb.at1 X1.out
    obtain ⟨_, _⟩ := hb.at2 X2.out
    simp only [headOps, List.contains, List.elem, List.length_cons, List.length_nil, Nat.zero_add, Nat.reduceAdd, Nat.reduceBEq, reduceIte, Bool.false_eq_true, dumOp]
    repeat (first | go_big_quiet_step (first | (first | (go_at_call 106; exact Calls.of_gr (HS.out _ (hb.trans ⟨⟨_, _⟩, rfl⟩))) | (go_at_call 107; exact Calls.of_gr (HM.out _)))) | quiet_step (fail))
    exact wpQuiet_nil rfl
  refine ⟨fun w' => by kernel_rfl, fun w' hg' => (HO.out w').mono fun e w2 ⟨⟨x, y, he⟩, hg2⟩ => ⟨_, he, fun a' ha' => ⟨ha', ⟨x, y, rfl⟩, hg'.trans hg2⟩⟩⟩
set_option maxRecDepth 20000 in
set_option maxHeartbeats 4000000 in
theorem cse_4 (g k1 k2 : Nat) (xs : List (Int × Int)) (t0 t1 u0 u1 d0 d1 s t : Int) (T1 TX : TypeId) (w : World) (X1 : Hid (w.heap[k1]? = some (.cells #[sl g xs.length] T1))) (X2 : Hid (w.heap[k2]? = some (.cells #[.int .i64 t0, .int .i64 t1] 25))) (X : Hid (w.heap[g]? = some (.cells (flatA xs) TX))) (h0 : 0 < xs.length) (hl : xs.length ≤ 64) (hall : allF xs = true) (hst : okB s t = true)
    (hS : ∀ w', Gr w w' → Calls Try.prog 106 #[sl g xs.length] w' fun e w'' => e = .returned (fr u0 u1) ∧ Gr w' w'')
    (hM : ∀ w, Calls Try.prog 107 #[fr u0 u1, fr t0 t1] w fun e w' => e = .returned (fr d0 d1) ∧ Gr w w')
    (hO : ∀ w, Calls Try.prog 108 #[fr d0 d1, .int .i64 (xs.length : Int)] w fun e w' => e = .returned (fr s t) ∧ Gr w w') :
    Calls Try.prog 105 #[.pointer (some ⟨k1, 0, none⟩), .pointer (some ⟨k2, 0, none⟩)] w fun e w' => ((AllE s t xs ∧ ∃ A' c', e = .returned (.slice A' xs.length c') ∧ w'.ownsRow w.heap.size 25 2 (.slice A' xs.length c') xs.length (flatL (evs s t xs))) ∨ (¬ AllE s t xs ∧ ∃ x y, e = .panicked [{ v := .iface 187 (fr x y), recovered := false }])) ∧ Gr w w' := by
  have HS := hid hS; have HM := hid hM; have HO := hid hO; have HALL := hid hall; have HST := hid hst; clear hS hM hO hall hst
  go_enter Try.func105, Try.ntmps105
  have _ := cells1 X1.out
  have _ := fz X1.out
  have _ := ltb X1.out
  obtain ⟨_, _⟩ := cells2 X2.out
  have _ := fz X2.out
  have _ := ltb X2.out
  go_wp2_with fail
  refine wp_reg1 (b0 := .cells #[.int .i64 0, .int .i64 0] 25) 8 7 3 (by kernel_rfl) (by kernel_rfl) rfl rfl (by simp) (fun _ _ => by kernel_rfl) ?_
  apply Exists.intro
  refine ⟨fun wb hb => ?_, ?_⟩
  · have _ := hb.at1 X1.out
    obtain ⟨_, _⟩ := hb.at2 X2.out
    simp only [headOps, List.contains, List.elem, Nat.reduceAdd, Nat.reduceBEq, reduceIte, Bool.false_eq_true, dumOp]
    repeat (first | go_big_quiet_step (first | (go_at_call 106; exact Calls.of_gr (HS.out _ (hb.trans ⟨⟨_, _⟩, rfl⟩))) | (go_at_call 107; exact Calls.of_gr (HM.out _)) | (go_at_call 108; exact Calls.of_gr (HO.out _))) | quiet_step (fail))
    exact wpQuiet_nil rfl
  intro w1 b1 hg1 hb1 xb1
  have Y1 := hid (hg1.keep X1.out); have XB := hid xb1; have G1 := hid hg1; have HB1 := hid hb1
  have hne1 : k1 ≠ b1 := Nat.ne_of_lt (Nat.lt_of_lt_of_le (ltb X1.out) hb1)
  obtain ⟨_, _⟩ := cells2 xb1
  have _ := fz xb1
  have _ := ltb xb1
  have _ := cells1 Y1.out
  clear hg1 xb1
  have G2 : Hid (Gr w ((w1.setCell ⟨b1, 0, none⟩ (.int .i64 s)).setCell ⟨b1, 1, none⟩ (.int .i64 t))) := hid ((G1.out.setCell HB1.out _).setCell HB1.out _)
  have XS2 : Hid (((w1.setCell ⟨b1, 0, none⟩ (.int .i64 s)).setCell ⟨b1, 1, none⟩ (.int .i64 t)).heap[b1]? = some (.cells #[.int .i64 s, .int .i64 t] 25)) := hid (set2_new XB.out)
  have XR2 : Hid (RdF ((w1.setCell ⟨b1, 0, none⟩ (.int .i64 s)).setCell ⟨b1, 1, none⟩ (.int .i64 t)) (some ⟨g, 0, none⟩) xs) := hid ((RdF.of_block X.out).keep G2.out)
  have YK2 : Hid (((w1.setCell ⟨b1, 0, none⟩ (.int .i64 s)).setCell ⟨b1, 1, none⟩ (.int .i64 t)).heap[k1]? = some (.cells #[sl g xs.length] T1)) := hid (set2_old Y1.out hne1)
  obtain ⟨W2, hW2⟩ : ∃ W2, (w1.setCell ⟨b1, 0, none⟩ (.int .i64 s)).setCell ⟨b1, 1, none⟩ (.int .i64 t) = W2 := ⟨_, rfl⟩
  have hsz2 : W2.heap.size = w1.heap.size := by rw [← hW2]; simp
  have hb1l : b1 < w1.heap.size := ltb XB.out
  rw [hW2] at G2 XS2 XR2 YK2
  have _ := cells1 YK2.out
  go_wp2_with fail
  refine (iCloneF _ _ xs W2 XR2 h0 (by omega)).mono ?_
  rintro e w3 ⟨A3, c3, rfl, own3, hg3⟩
  obtain ⟨gr, rest, rfl, hbr, hgr, hcm, hcl⟩ := own_openF own3 h0
  have G3 := hid (G2.out.trans hg3); have XR3 := hid hgr; have XS3 := hid (hg3.keep XS2.out)
  have hbg : b1 < gr := by omega
  have hwg : w.heap.size ≤ gr := by have := G2.out.size; omega
  clear own3 hg3 hgr
  go_wp2_with fail
  go_loopw [17] (fun u wr => ∃ (k : Nat), u = .int .i64 (k : Int) ∧ k ≤ xs.length ∧ Gr w wr ∧ wr.heap[gr]? = some (.cells (fracR (yse s t xs k) rest) 25) ∧ wr.heap[b1]? = some (.cells #[.int .i64 s, .int .i64 t] 25) ∧ (∀ (i : Nat) (p q : Int), i < k → xs[i]? = some (p, q) → sbB p q s t = true)) (fun u _ => xs.length - (intOf u).toNat)
  case atStart => exact ⟨0, rfl, by omega, G3.out, by simpa [yse] using XR3.out, XS3.out, fun i p q h => by omega⟩
  case round =>
    obtain ⟨k, rfl, hk, hg, hx0, hx1, hok⟩ := hrel
    have GR := hid hg; have X0 := hid hx0; have XS := hid hx1; have HOK := hid hok
    clear hg hx0 hx1 hok
    by_cases hlt : k < xs.length
    · obtain ⟨⟨p, q⟩, hp⟩ : ∃ pq, xs[k]? = some pq := ⟨xs[k], List.getElem?_eq_getElem _⟩
      have HPQ := hid (allF_get2 HALL.out hp)
      obtain ⟨c1, c2⟩ := fracR_cells X0.out (yse_get (s := s) (t := t) hp)
      have C1 := hid c1; have C2 := hid c2; have HP := hid hp
      clear c1 c2 hp
      cases hd : sbB p q s t with
      | true =>
        have HD := hid hd
        have hmn := fun w => minusv_t p q s t w HPQ.out HST.out HD.out
        have hset := yse_set (s := s) (t := t) HP.out
        obtain ⟨P, hP⟩ : ∃ P, sbP p q s t = P := ⟨_, rfl⟩
        obtain ⟨Q, hQ⟩ : ∃ Q, sbQ p q s t = Q := ⟨_, rfl⟩
        rw [hP, hQ] at hmn hset
        have HMN := hid hmn; have HSET := hid hset
        clear hd hmn hset hP hQ
        go_wp2_with fail
        refine wp_reg0 9 (by kernel_rfl) (by kernel_rfl) ?_
        apply Exists.intro
        refine ⟨fun wb hb => ?_, ?_⟩
        · have _ := hb.atF C1.out; have _ := hb.atF C2.out
          obtain ⟨_, _⟩ := hb.at2 XS.out
          simp only [headOps, List.contains, List.elem, reduceIte, Bool.false_eq_true]
          repeat (first | go_big_quiet_step (first | (go_at_call 107; exact Calls.of_gr (HMN.out _))) | quiet_step (fail))
          exact wpQuiet_nil rfl
        intro w5 hg5
        have X5 := hid (hg5.keep X0.out); have XS5 := hid (hg5.keep XS.out); have G5 := hid (GR.out.trans hg5)
        obtain ⟨_, _⟩ := fracR_cells X5.out (yse_get (s := s) (t := t) HP.out)
        have _ := fz X5.out
        have hlen : k < (yse s t xs k).length := by rw [yse_len (by omega)]; exact hlt
        clear hg5
        go_wp2_with fail
        refine ⟨⟨k + 1, by simp, by omega, (G5.out.setCell (show w.heap.size ≤ gr from hwg) _).setCell (show w.heap.size ≤ gr from hwg) _, ?_, keepSet' (keepSet' XS5.out (show b1 ≠ gr by omega)) (show b1 ≠ gr by omega), fun i p' q' hi hp' => ?_⟩, by simp [intOf]; omega⟩
        · have e1 := fracR_store P Q X5.out hlen
          rw [HSET.out] at e1
          exact e1
        · by_cases hik : i = k
          · subst hik
            have := HP.out.symm.trans hp'
            cases this
            exact HD.out
          · exact HOK.out i p' q' (by omega) hp'
      | false =>
        have HD := hid hd
        have HMN := hid fun w => minusv_f p q s t w HPQ.out HST.out HD.out
        have HNA : Hid (¬ AllE s t xs) := hid fun h => by have := h k p q HP.out; rw [HD.out] at this; cases this
        clear hd
        go_wp2_with fail
        refine wp_regP 7 [8, 9] (by kernel_rfl) (by kernel_rfl) rfl ?_
        apply Exists.intro
        refine ⟨107, #[fr p q, fr s t], fun wb hb => ?_, ?_⟩
        · have _ := hb.atF C1.out; have _ := hb.atF C2.out
          obtain ⟨_, _⟩ := hb.at2 XS.out
          simp only [headOps, List.contains, List.elem, List.length_cons, List.length_nil, Nat.zero_add, Nat.reduceAdd, Nat.reduceBEq, reduceIte, Bool.false_eq_true, dumOp]
          repeat (first | go_big_quiet_step (first | (fail)) | quiet_step (fail))
          exact wpQuiet_nil rfl
        refine ⟨fun w' => by kernel_rfl, fun w' hg' => (HMN.out w').mono fun e w2 ⟨⟨x, y, he⟩, hg2⟩ => ⟨_, he, fun a' ha' => ⟨ha', .inr ⟨HNA.out, x, y, rfl⟩, (GR.out.trans hg').trans hg2⟩⟩⟩
    · have hke : k = xs.length := by omega
      subst hke
      go_wp2_with fail
      go_ret
      have h := X0.out
      rw [yse_all] at h
      exact ⟨.inl ⟨fun k p q hp => HOK.out k p q (List.getElem?_eq_some_iff.1 hp).1 hp, some ⟨gr, 0, none⟩, c3, rfl, by
        have := own_closeF (base := w.heap.size) (E := 25) (ys := evs s t xs) hwg h hcm (by rw [evs_len]; exact hcl)
        rwa [evs_len] at this⟩, GR.out⟩
end
end Go.Proofs.Yteeadoglbkociaa
