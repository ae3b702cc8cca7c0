/- WALKS: CorrectScale, of the program. -/
import Derived.Test.YteeadoglbkociaaEg
import Derived.Test.YteeadoglbkociaaSe
namespace Go.Proofs.Yteeadoglbkociaa
open Go.RowKit Go.Sort

/-- The errors of a scale, each without the one that is taken away. -/
def csL (xs ys : List (Int × Int)) : List (Int × Int) := (xs.zip ys).map fun z => (sbP z.1.1 z.1.2 z.2.1 z.2.2, sbQ z.1.1 z.1.2 z.2.1 z.2.2)
def AllC (xs ys : List (Int × Int)) : Prop := ∀ (k : Nat) (p q s t : Int), xs[k]? = some (p, q) → ys[k]? = some (s, t) → sbB p q s t = true
theorem csL_len {xs ys : List (Int × Int)} (h : ys.length = xs.length) : (csL xs ys).length = xs.length := by simp [csL, h]
theorem csL_get {xs ys : List (Int × Int)} {k : Nat} {p q s t : Int} (h : xs[k]? = some (p, q)) (h2 : ys[k]? = some (s, t)) : (csL xs ys)[k]? = some (sbP p q s t, sbQ p q s t) := by
  unfold csL
  rw [List.getElem?_map, (List.getElem?_zip_eq_some (z := ((p, q), (s, t)))).2 ⟨h, h2⟩]
  rfl
theorem csL_take {xs ys : List (Int × Int)} {k : Nat} {p q s t : Int} (h : xs[k]? = some (p, q)) (h2 : ys[k]? = some (s, t)) : (csL xs ys).take (k + 1) = (csL xs ys).take k ++ [(sbP p q s t, sbQ p q s t)] := by
  rw [List.take_add_one, csL_get h h2]
  rfl
/-- The errors, the first k of them corrected. -/
def ycs (xs ys : List (Int × Int)) (k : Nat) : List (Int × Int) := (csL xs ys).take k ++ xs.drop k
theorem ycs_len {xs ys : List (Int × Int)} {k : Nat} (h : k ≤ xs.length) (hl : ys.length = xs.length) : (ycs xs ys k).length = xs.length := by
  unfold ycs
  rw [List.length_append, List.length_take, csL_len hl, List.length_drop]
  omega
theorem ycs_get {xs ys : List (Int × Int)} {k : Nat} {p q : Int} (h : xs[k]? = some (p, q)) (hl : ys.length = xs.length) : (ycs xs ys k)[k]? = some (p, q) := by
  have hk : k < xs.length := (List.getElem?_eq_some_iff.1 h).1
  have hl : ((csL xs ys).take k).length = k := by rw [List.length_take, csL_len hl]; omega
  unfold ycs
  rw [List.getElem?_append_right (by omega), hl, Nat.sub_self, List.getElem?_drop]
  simpa using h
theorem ycs_set {xs ys : List (Int × Int)} {k : Nat} {p q s t : Int} (h : xs[k]? = some (p, q)) (h2 : ys[k]? = some (s, t)) (hl : ys.length = xs.length) : (ycs xs ys k).set k (sbP p q s t, sbQ p q s t) = ycs xs ys (k + 1) := by
  have hk : k < xs.length := (List.getElem?_eq_some_iff.1 h).1
  have hl : ((csL xs ys).take k).length = k := by rw [List.length_take, csL_len hl]; omega
  unfold ycs
  rw [List.set_append_right _ _ (by omega), hl, Nat.sub_self, csL_take h h2, List.drop_eq_getElem_cons hk, List.set_cons_zero]
  simp
theorem ycs_all {xs ys : List (Int × Int)} (hl : ys.length = xs.length) : ycs xs ys xs.length = csL xs ys := by
  unfold ycs
  rw [List.take_of_length_le (by rw [csL_len hl]; exact Nat.le_refl _)]
  simp
set_option maxRecDepth 20000 in
set_option maxHeartbeats 4000000 in
theorem cco (a b : Int) (A B : Option Addr) (c d k1 k2 : Nat) (xs ys : List (Int × Int)) (w : World) (T1 T2 : TypeId) (X1 : Hid (w.heap[k1]? = some (.cells #[.int .i64 a, .int .i64 b, .slice A xs.length c] T1))) (X2 : Hid (w.heap[k2]? = some (.cells #[.slice B xs.length d] T2))) (X : Hid (RdF w A xs)) (Y : Hid (RdF w B ys)) (h0 : 0 < xs.length) (hl : xs.length ≤ 64) (hlen : Hid (ys.length = xs.length)) (hx : allF xs = true) (hy : allF ys = true) :
    Calls Try.prog 120 #[.pointer (some ⟨k1, 0, none⟩), .pointer (some ⟨k2, 0, none⟩)] w fun e w' => ((AllC xs ys ∧ ∃ A' c', e = .returned (scl a b A' xs.length c') ∧ w'.ownsRow w.heap.size 25 2 (.slice A' xs.length c') xs.length (flatL (csL xs ys))) ∨ (¬ AllC xs ys ∧ ∃ x y, e = .panicked [{ v := .iface 187 (fr x y), recovered := false }])) ∧ Gr w w' := by
  have HX := hid hx; have HY := hid hy; clear hx hy
  have hk1 := ltb X1.out; have hk2 := ltb X2.out
  go_enter Try.func120, Try.ntmps120
  obtain ⟨_, _, _⟩ := cells3 X1.out
  have _ := fz X1.out
  have _ := ltb X1.out
  have _ := cells1 X2.out
  have _ := fz X2.out
  have _ := ltb X2.out
  go_wp2_with fail
  refine (iCloneF _ _ xs _ (hid (X.out.keep ((Gr.refl w).al _))) h0 (by omega)).mono ?_
  rintro e w3 ⟨A3, c3, rfl, own3, hg3⟩
  obtain ⟨gr, rest, rfl, hbr, hgr, hcm, hcl⟩ := own_openF own3 h0
  have G3 := hid hg3; have XR3 := hid hgr
  have hwg : w.heap.size + 1 ≤ gr := by simpa using hbr
  clear own3 hg3 hgr hbr
  go_wp2_with fail
  go_loopw [10] (fun u wr => ∃ (k : Nat), u = .int .i64 (k : Int) ∧ k ≤ xs.length ∧ Gr (w.alloc (.cells #[.int .i64 0, .int .i64 0, .slice none 0 0] 76)) wr ∧ wr.heap[gr]? = some (.cells (fracR (ycs xs ys k) rest) 25) ∧ (∀ (i : Nat) (p q s t : Int), i < k → xs[i]? = some (p, q) → ys[i]? = some (s, t) → sbB p q s t = true)) (fun u _ => xs.length - (intOf u).toNat)
  case atStart => exact ⟨0, rfl, by omega, G3.out, by simpa [ycs] using XR3.out, fun i p q s t h => by omega⟩
  case round =>
    obtain ⟨k, rfl, hk, hg, hx0, hok⟩ := hrel
    have GR := hid hg; have X0 := hid hx0; have HOK := hid hok
    have GV := hid (((Gr.refl w).al (.cells #[.int .i64 0, .int .i64 0, .slice none 0 0] 76)).trans hg)
    have Y0 := hid (hg.keep (alloc1 (w := w) (A := .cells #[.int .i64 0, .int .i64 0, .slice none 0 0] 76) (Gr.refl _)).1)
    have Y1 := hid (GV.out.keep X1.out); have Y2 := hid (GV.out.keep X2.out)
    clear hg hx0 hok
    by_cases hlt : k < xs.length
    · obtain ⟨⟨p, q⟩, hp⟩ : ∃ pq, xs[k]? = some pq := ⟨xs[k], List.getElem?_eq_getElem _⟩
      have hlt2 : k < ys.length := by rw [hlen.out]; exact hlt
      obtain ⟨⟨s, t⟩, hs⟩ : ∃ pq, ys[k]? = some pq := ⟨ys[k], List.getElem?_eq_getElem _⟩
      clear hlt2
      have HPQ := hid (allF_get2 HX.out hp)
      have HST := hid (allF_get2 HY.out hs)
      obtain ⟨c1, c2⟩ := fracR_cells X0.out (ycs_get hp hlen.out)
      obtain ⟨ad, rfl, d1, d2⟩ := (Y.out.keep GV.out) k s t hs
      have C1 := hid c1; have C2 := hid c2; have D1 := hid d1; have D2 := hid d2; have HP := hid hp; have HS := hid hs
      clear c1 c2 d1 d2 hp hs
      cases hd : sbB p q s t with
      | true =>
        have HD := hid hd
        have hmn := fun w => minusv_t p q s t w HPQ.out HST.out HD.out
        have hset := ycs_set HP.out HS.out hlen.out
        obtain ⟨P, hP⟩ : ∃ P, sbP p q s t = P := ⟨_, rfl⟩
        obtain ⟨Q, hQ⟩ : ∃ Q, sbQ p q s t = Q := ⟨_, rfl⟩
        rw [hP, hQ] at hmn hset
        have HMN := hid hmn; have HSET := hid hset
        clear hd hmn hset hP hQ
        go_wp2_with fail
        refine wp_reg0 12 (by kernel_rfl) (by kernel_rfl) ?_
        apply Exists.intro
        refine ⟨fun wb hb => ?_, ?_⟩
        · have _ := hb.atF C1.out; have _ := hb.atF C2.out; have _ := hb.atF D1.out; have _ := hb.atF D2.out
          have _ := hb.at1 Y2.out
          simp only [headOps, List.contains, List.elem, reduceIte, Bool.false_eq_true]
          repeat (first | go_big_quiet_step (first | (go_at_call 107; exact Calls.of_gr (HMN.out _))) | quiet_step (fail))
          exact wpQuiet_nil rfl
        intro w5 hg5
        have X5 := hid (hg5.keep X0.out); have G5 := hid (GR.out.trans hg5)
        obtain ⟨_, _⟩ := fracR_cells X5.out (ycs_get HP.out hlen.out)
        have _ := fz X5.out
        have hle : k < (ycs xs ys k).length := by rw [ycs_len (by omega) hlen.out]; exact hlt
        clear hg5
        go_wp2_with fail
        refine ⟨⟨k + 1, by simp, by omega, (G5.out.setCell (by simpa using hwg) _).setCell (by simpa using hwg) _, ?_, fun i p' q' s' t' hi hp' hs' => ?_⟩, by simp [intOf]; omega⟩
        · have e1 := fracR_store P Q X5.out hle
          rw [HSET.out] at e1
          exact e1
        · by_cases hik : i = k
          · subst hik
            have e1 := HP.out.symm.trans hp'
            have e2 := HS.out.symm.trans hs'
            cases e1
            cases e2
            exact HD.out
          · exact HOK.out i p' q' s' t' (by omega) hp' hs'
      | false =>
        have HD := hid hd
        have HMN := hid fun w => minusv_f p q s t w HPQ.out HST.out HD.out
        have HNA : Hid (¬ AllC xs ys) := hid fun h => by have := h k p q s t HP.out HS.out; rw [HD.out] at this; cases this
        clear hd
        go_wp2_with fail
        refine wp_regP 10 [11, 12] (by kernel_rfl) (by kernel_rfl) rfl ?_
        apply Exists.intro
        refine ⟨107, #[fr p q, fr s t], fun wb hb => ?_, ?_⟩
        · have _ := hb.atF C1.out; have _ := hb.atF C2.out; have _ := hb.atF D1.out; have _ := hb.atF D2.out
          have _ := hb.at1 Y2.out
          simp only [headOps, List.contains, List.elem, List.length_cons, List.length_nil, Nat.zero_add, Nat.reduceAdd, Nat.reduceBEq, reduceIte, Bool.false_eq_true, dumOp]
          repeat (first | go_big_quiet_step (first | (fail)) | quiet_step (fail))
          exact wpQuiet_nil rfl
        refine ⟨fun w' => by kernel_rfl, fun w' hg' => (HMN.out w').mono fun e w2 ⟨⟨x, y, he⟩, hg2⟩ => ⟨_, he, fun a' ha' => ⟨ha', .inr ⟨HNA.out, x, y, rfl⟩, (GV.out.trans hg').trans hg2⟩⟩⟩
    · have hke : k = xs.length := by omega
      subst hke
      have h := X0.out
      rw [ycs_all hlen.out] at h
      have OWN := hid (own_closeF (base := w.heap.size + 1) (E := 25) (ys := csL xs ys) hwg h hcm (by rw [csL_len hlen.out]; exact hcl))
      rw [csL_len hlen.out] at OWN
      have HALL : Hid (AllC xs ys) := hid fun k p q s t hp hs => HOK.out k p q s t (List.getElem?_eq_some_iff.1 hp).1 hp hs
      clear h
      obtain ⟨_, _, _⟩ := cells3 Y1.out
      obtain ⟨_, _, _⟩ := cells3 Y0.out
      have _ := fz Y0.out
      have _ := ltb Y0.out
      go_wp2_with fail
      refine bodyPost_ret (v := scl a b (some ⟨gr, 0, none⟩) xs.length c3) (by simp [results, Try.results120, go_sem, *]) rfl ?_
      exact ⟨.inl ⟨HALL.out, some ⟨gr, 0, none⟩, c3, rfl, own_base (base' := w.heap.size) (own_low (own_low (own_low OWN.out (by simp) _) (by simp) _) (by simp) _) (by omega)⟩, ((GV.out.setCell (by simp) _).setCell (by simp) _).setCell (by simp) _⟩
end Go.Proofs.Yteeadoglbkociaa
