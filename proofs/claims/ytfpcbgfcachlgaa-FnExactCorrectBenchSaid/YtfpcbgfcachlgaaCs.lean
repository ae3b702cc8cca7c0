/- WALKS: CorrectScale, of the program. -/
import Derived.Test.YtfpcbgfcachlgaaEg
import Derived.Test.YtfpcbgfcachlgaaSe
namespace Go.Proofs.Ytfpcbgfcachlgaa
open Go.RowKit Go.Sort

/-- The errors of a scale, each without the one that is taken away. -/
def csL (xs ys : List (Int × Int)) : List (Int × Int) := (xs.zip ys).map fun z => (sbP z.1.1 z.1.2 z.2.1 z.2.2, sbQ z.1.1 z.1.2 z.2.1 z.2.2)
def AllC (xs ys : List (Int × Int)) : Prop := ∀ (k : Nat) (p q s t : Int), xs[k]? = some (p, q) → ys[k]? = some (s, t) → sbB p q s t = true
theorem csL_len {xs ys : List (Int × Int)} (h : ys.length = xs.length) : (csL xs ys).length = xs.length := by simp [csL, h]
theorem csL_get {xs ys : List (Int × Int)} {k : Nat} {p q s t : Int} (h : xs[k]? = some (p, q)) (h2 : ys[k]? = some (s, t)) : (csL xs ys)[k]? = some (sbP p q s t, sbQ p q s t) := by
  unfold csL
  rw [List.getElem?_map, (List.getElem?_zip_eq_some (z := ((p, q), (s, t)))).2 ⟨h, h2⟩]
  rfl
theorem csL_take {xs ys : List (Int × Int)} {k : Nat} {p q s t : Int} (h : xs[k]? = some (p, q)) (h2 : ys[k]? = some (s, t)) : (csL xs ys).take (k + 1) = (csL xs ys).take k ++ [(sbP p q s t, sbQ p q s t)] := by
  rw [List.take_add_one, csL_get h h2]
  rfl
/-- The errors, the first k of them corrected. -/
def ycs (xs ys : List (Int × Int)) (k : Nat) : List (Int × Int) := (csL xs ys).take k ++ xs.drop k
theorem ycs_len {xs ys : List (Int × Int)} {k : Nat} (h : k ≤ xs.length) (hl : ys.length = xs.length) : (ycs xs ys k).length = xs.length := by
  unfold ycs
  rw [List.length_append, List.length_take, csL_len hl, List.length_drop]
  omega
theorem ycs_get {xs ys : List (Int × Int)} {k : Nat} {p q : Int} (h : xs[k]? = some (p, q)) (hl : ys.length = xs.length) : (ycs xs ys k)[k]? = some (p, q) := by
  have hk : k < xs.length := (List.getElem?_eq_some_iff.1 h).1
  have hl : ((csL xs ys).take k).length = k := by rw [List.length_take, csL_len hl]; omega
  unfold ycs
  rw [List.getElem?_append_right (by omega), hl, Nat.sub_self, List.getElem?_drop]
  simpa using h
theorem ycs_set {xs ys : List (Int × Int)} {k : Nat} {p q s t : Int} (h : xs[k]? = some (p, q)) (h2 : ys[k]? = some (s, t)) (hl : ys.length = xs.length) : (ycs xs ys k).set k (sbP p q s t, sbQ p q s t) = ycs xs ys (k + 1) := by
  have hk : k < xs.length := (List.getElem?_eq_some_iff.1 h).1
  have hl : ((csL xs ys).take k).length = k := by rw [List.length_take, csL_len hl]; omega
  unfold ycs
  rw [List.set_append_right _ _ (by omega), hl, Nat.sub_self, csL_take h h2, List.drop_eq_getElem_cons hk, List.set_cons_zero]
  simp
theorem ycs_all {xs ys : List (Int × Int)} (hl : ys.length = xs.length) : ycs xs ys xs.length = csL xs ys := by
  unfold ycs
  rw [List.take_of_length_le (by rw [csL_len hl]; exact Nat.le_refl _)]
  simp
set_option maxRecDepth 20000 in
set_option maxHeartbeats 4000000 in
theorem cco (a b : Int) (A B : Option Addr) (c d k1 k2 : Nat) (xs ys : List (Int × Int)) (w : World) (T1 T2 : TypeId) (X1 : Hid (w.heap[k1]? = some (.cells #[.int .i64 a, .int .i64 b, .slice A xs.length c] T1))) (X2 : Hid (w.heap[k2]? = some (.cells #[.slice B xs.length d] T2))) (X : Hid (RdF w A xs)) (Y : Hid (RdF w B ys)) (h0 : 0 < xs.length) (hl : xs.length ≤ 64) (hlen : Hid (ys.length = xs.length)) (hx : allF xs = true) (hy : allF ys = true) :
    Calls Try.prog 121 #[.pointer (some ⟨k1, 0, none⟩), .pointer (some ⟨k2, 0, none⟩)] w fun e w' => ((AllC xs ys ∧ ∃ A' c', e = .returned (scl a b A' xs.length c') ∧ w'.ownsRow w.heap.size 34 2 (.slice A' xs.length c') xs.length (flatL (csL xs ys))) ∨ (¬ AllC xs ys ∧ ∃ x y, e = .panicked [{ v := .iface 258 (fr x y), recovered := false }])) ∧ Gr w w' := by
  have HX := hid hx; have HY := hid hy; clear hx hy
  have hk1 := ltb X1.out; have hk2 := ltb X2.out
  go_enter Try.func121, Try.ntmps121
  obtain ⟨_, _, _⟩ := cells3 X1.out
  have _ := fz X1.out
  have _ := ltb X1.out
  have _ := cells1 X2.out
  have _ := fz X2.out
  have _ := ltb X2.out
  go_wp2_with fail
  refine (iCloneF _ _ xs _ (hid (X.out.keep ((Gr.refl w).al _))) h0 (by omega)).mono ?_
  rintro e w3 ⟨A3, c3, rfl, own3, hg3⟩
  obtain ⟨gr, rest, rfl, hbr, hgr, hcm, hcl⟩ := own_openF own3 h0
  have G3 := hid hg3; have XR3 := hid hgr
  have hwg : w.heap.size + 1 ≤ gr := by simpa using hbr
  clear own3 hg3 hgr hbr
  go_wp2_with fail
  go_loopw [10] (fun u wr => ∃ (k : Nat), u = .int .i64 (k : Int) ∧ k ≤ xs.length ∧ Gr (w.alloc (.cells #[.int .i64 0, .int .i64 0, .slice none 0 0] 37)) wr ∧ wr.heap[gr]? = some (.cells (fracR (ycs xs ys k) rest) 34) ∧ (∀ (i : Nat) (p q s t : Int), i < k → xs[i]? = some (p, q) → ys[i]? = some (s, t) → sbB p q s t = true)) (fun u _ => xs.length - (intOf u).toNat)
  case atStart => exact ⟨0, rfl, by omega, G3.out, by simpa [ycs] using XR3.out, fun i p q s t h => by omega⟩
  case round =>
    obtain ⟨k, rfl, hk, hg, hx0, hok⟩ := hrel
    have GR := hid hg; have X0 := hid hx0; have HOK := hid hok
    have GV := hid (((Gr.refl w).al (.cells #[.int .i64 0, .int .i64 0, .slice none 0 0] 37)).trans hg)
    have Y0 := hid (hg.keep (alloc1 (w := w) (A := .cells #[.int .i64 0, .int .i64 0, .slice none 0 0] 37) (Gr.refl _)).1)
    have Y1 := hid (GV.out.keep X1.out); have Y2 := hid (GV.out.keep X2.out)
    clear hg hx0 hok
    by_cases hlt : k < xs.length
    · obtain ⟨⟨p, q⟩, hp⟩ : ∃ pq, xs[k]? = some pq := ⟨xs[k], List.getElem?_eq_getElem _⟩
      have hlt2 : k < ys.length := by rw [hlen.out]; exact hlt
      obtain ⟨⟨s, t⟩, hs⟩ : ∃ pq, ys[k]? = some pq := ⟨ys[k], List.getElem?_eq_getElem _⟩
      clear hlt2
      have HPQ := hid (allF_get2 HX.out hp)
      have HST := hid (allF_get2 HY.out hs)
      obtain ⟨c1, c2⟩ := fracR_cells X0.out (ycs_get hp hlen.out)
      obtain ⟨ad, rfl, d1, d2⟩ := (Y.out.keep GV.out) k s t hs
      have C1 := hid c1; have C2 := hid c2; have D1 := hid d1; have D2 := hid d2; have HP := hid hp; have HS := hid hs
      clear c1 c2 d1 d2 hp hs
      cases hd : sbB p q s t with
      | true =>
        have HD := hid hd
        have hmn := fun w => minusv_t p q s t w HPQ.out HST.out HD.out
        have hset := ycs_set HP.out HS.out hlen.out
        obtain ⟨P, hP⟩ : ∃ P, sbP p q s t = P := ⟨_, rfl⟩
        obtain ⟨Q, hQ⟩ : ∃ Q, sbQ p q s t = Q := ⟨_, rfl⟩
        rw [hP, hQ] at hmn hset
        have HMN := hid hmn; have HSET := hid hset
        clear hd hmn hset hP hQ
        go_wp2_with fail
        refine wp_reg0 12 (by kernel_rfl) (by kernel_rfl) ?_
        apply Exists.intro
        refine ⟨fun wb hb => ?_, ?_⟩
        · have _ := hb.atF C1.out; have _ := hb.atF C2.out; have _ := hb.atF D1.out; have _ := hb.atF D2.out
          have _ := hb.at1 Y2.out
          simp only [headOps, List.contains, List.elem, reduceIte, Bool.false_eq_true]
          repeat (first | go_big_quiet_step (first | (go_at_call 123; exact Calls.of_gr (HMN.out _))) | quiet_step (fail))
          exact wpQuiet_nil rfl
        intro w5 hg5
        have X5 := hid (hg5.keep X0.out); have G5 := hid (GR.out.trans hg5)
        obtain ⟨_, _⟩ := fracR_cells X5.out (ycs_get HP.out hlen.out)
        have _ := fz X5.out
        have hle : k < (ycs xs ys k).length := by rw [ycs_len (by omega) hlen.out]; exact hlt
        clear hg5
        go_wp2_with fail
        refine ⟨⟨k + 1, by simp, by omega, (G5.out.setCell (by simpa using hwg) _).setCell (by simpa using hwg) _, ?_, fun i p' q' s' t' hi hp' hs' => ?_⟩, by simp [intOf]; omega⟩
        · have e1 := fracR_store P Q X5.out hle
          rw [HSET.out] at e1
          exact e1
        · by_cases hik : i = k
          · subst hik
            have e1 := HP.out.symm.trans hp'
            have e2 := HS.out.symm.trans hs'
            cases e1
            cases e2
            exact HD.out
          · exact HOK.out i p' q' s' t' (by omega) hp' hs'
      | false =>
        have HD := hid hd
        have HMN := hid fun w => minusv_f p q s t w HPQ.out HST.out HD.out
        have HNA : Hid (¬ AllC xs ys) := hid fun h => by have := h k p q s t HP.out HS.out; rw [HD.out] at this; cases this
        clear hd
        go_wp2_with fail
        refine wp_regP 10 [11, 12] (by kernel_rfl) (by kernel_rfl) rfl ?_
        apply Exists.intro
        refine ⟨123, #[fr p q, fr s t], fun wb hb => ?_, ?_⟩
        · have _ := hb.atF C1.out; have _ := hb.atF C2.out; have _ := hb.atF D1.out; have _ := hb.atF D2.out
          have _ := hb.at1 Y2.out
          simp only [headOps, List.contains, List.elem, List.length_cons, List.length_nil, Nat.zero_add, Nat.reduceAdd, Nat.reduceBEq, reduceIte, Bool.false_eq_true, dumOp]
          repeat (first | go_big_quiet_step (first | (fail)) | quiet_step (fail))
          exact wpQuiet_nil rfl
        refine ⟨fun w' => by kernel_rfl, fun w' hg' => (HMN.out w').mono fun e w2 ⟨⟨x, y, he⟩, hg2⟩ => ⟨_, he, fun a' ha' => ⟨ha', .inr ⟨HNA.out, x, y, rfl⟩, (GV.out.trans hg').trans hg2⟩⟩⟩
    · have hke : k = xs.length := by omega
      subst hke
      have h := X0.out
      rw [ycs_all hlen.out] at h
      have OWN := hid (own_closeF (base := w.heap.size + 1) (E := 34) (ys := csL xs ys) hwg h hcm (by rw [csL_len hlen.out]; exact hcl))
      rw [csL_len hlen.out] at OWN
      have HALL : Hid (AllC xs ys) := hid fun k p q s t hp hs => HOK.out k p q s t (List.getElem?_eq_some_iff.1 hp).1 hp hs
      clear h
      obtain ⟨_, _, _⟩ := cells3 Y1.out
      obtain ⟨_, _, _⟩ := cells3 Y0.out
      have _ := fz Y0.out
      have _ := ltb Y0.out
      go_wp2_with fail
      refine bodyPost_ret (v := scl a b (some ⟨gr, 0, none⟩) xs.length c3) (by simp [results, Try.results121, go_sem, *]) rfl ?_
      exact ⟨.inl ⟨HALL.out, some ⟨gr, 0, none⟩, c3, rfl, own_base (base' := w.heap.size) (own_low (own_low (own_low OWN.out (by simp) _) (by simp) _) (by simp) _) (by omega)⟩, ((GV.out.setCell (by simp) _).setCell (by simp) _).setCell (by simp) _⟩
end Go.Proofs.Ytfpcbgfcachlgaa
namespace Go.Proofs.Ytfpcbgfcachlgaa
open Go.RowKit Go.Sort

set_option maxRecDepth 20000 in
set_option maxHeartbeats 400000 in
theorem iCS_0 (a b : Int) (A B : Option Addr) (c d : Nat) (xs ys : List (Int × Int)) (w : World) (X : Hid (RdF w A xs)) (hn : xs.length ≤ 1048576) (h : sclB a b xs = false) :
    Calls Try.prog 59 #[scl a b A xs.length c, .slice B ys.length d] w fun e w' => e = .returned (.tuple #[scl 0 0 none 0 0, .int .i64 1]) ∧ Gr w w' := by
  have h := hid h
  go_enter Try.func59, Try.ntmps59
  go_wp2_with fail
  refine (iScF a b A c xs _ (hid (X.out.keep ((((Gr.refl w).al _).al _).al _))) hn h.out).mono ?_
  rintro e w1 ⟨rfl, hg1⟩
  obtain ⟨x1_0, x1_1, x1_2, hz1, g1⟩ := alloc3 hg1
  obtain ⟨_, _, _⟩ := cells3 x1_0
  have _ := fz x1_0
  have _ := ltb x1_0
  have _ := cells1 x1_1
  have _ := fz x1_1
  have _ := ltb x1_1
  obtain ⟨_, _, _⟩ := cells3 x1_2
  have _ := fz x1_2
  have _ := ltb x1_2
  have X1_0 := hid x1_0; clear x1_0
  have X1_1 := hid x1_1; clear x1_1
  have X1_2 := hid x1_2; clear x1_2
  have G1 := hid (g1)
  clear hg1 g1
  go_wp2
  refine bodyPost_ret (v := .tuple #[scl 0 0 none 0 0, .int .i64 1]) (by simp [results, Try.results59, go_sem, *]) rfl ⟨rfl, ?_⟩
  exact (((G1.out).setCell (by simp <;> omega) _).setCell (by simp <;> omega) _).setCell (by simp <;> omega) _
set_option maxRecDepth 20000 in
set_option maxHeartbeats 400000 in
theorem iCS_1 (a b : Int) (A B : Option Addr) (c d : Nat) (xs ys : List (Int × Int)) (w : World) (X : Hid (RdF w A xs)) (Y : Hid (RdF w B ys)) (hn : xs.length ≤ 1048576) (hm : ys.length ≤ 1048576) (h : sclB a b xs = true) (h2 : allF ys = false) :
    Calls Try.prog 59 #[scl a b A xs.length c, .slice B ys.length d] w fun e w' => e = .returned (.tuple #[scl 0 0 none 0 0, .int .i64 1]) ∧ Gr w w' := by
  have h := hid h
  have HS := hid fun (w' : World) (Z : Hid (RdF w' B ys)) => h2 ▸ iFracs B d ys w' Z hm
  go_enter Try.func59, Try.ntmps59
  go_wp2_with fail
  refine (iScT a b A c xs _ (hid (X.out.keep ((((Gr.refl w).al _).al _).al _))) hn h.out).mono ?_
  rintro e w1 ⟨rfl, hg1⟩
  obtain ⟨x1_0, x1_1, x1_2, hz1, g1⟩ := alloc3 hg1
  obtain ⟨_, _, _⟩ := cells3 x1_0
  have _ := fz x1_0
  have _ := ltb x1_0
  have _ := cells1 x1_1
  have _ := fz x1_1
  have _ := ltb x1_1
  obtain ⟨_, _, _⟩ := cells3 x1_2
  have _ := fz x1_2
  have _ := ltb x1_2
  have X1_0 := hid x1_0; clear x1_0
  have X1_1 := hid x1_1; clear x1_1
  have X1_2 := hid x1_2; clear x1_2
  have G1 := hid (g1)
  clear hg1 g1
  go_wp2_with fail
  refine (HS.out _ (hid (Y.out.keep G1.out))).mono ?_
  rintro e w2 ⟨rfl, hg2⟩
  have x2_1 := hg2.keep X1_0.out
  have x2_2 := hg2.keep X1_1.out
  have x2_3 := hg2.keep X1_2.out
  obtain ⟨_, _, _⟩ := cells3 x2_1
  have _ := fz x2_1
  have _ := ltb x2_1
  have _ := cells1 x2_2
  have _ := fz x2_2
  have _ := ltb x2_2
  obtain ⟨_, _, _⟩ := cells3 x2_3
  have _ := fz x2_3
  have _ := ltb x2_3
  have X2_1 := hid x2_1; clear x2_1
  have X2_2 := hid x2_2; clear x2_2
  have X2_3 := hid x2_3; clear x2_3
  have G2 := hid (G1.out.trans hg2)
  clear hg2
  go_wp2
  refine bodyPost_ret (v := .tuple #[scl 0 0 none 0 0, .int .i64 1]) (by simp [results, Try.results59, go_sem, *]) rfl ⟨rfl, ?_⟩
  exact (((G2.out).setCell (by simp <;> omega) _).setCell (by simp <;> omega) _).setCell (by simp <;> omega) _
set_option maxRecDepth 20000 in
set_option maxHeartbeats 400000 in
theorem iCS_2 (a b : Int) (A B : Option Addr) (c d : Nat) (xs ys : List (Int × Int)) (w : World) (X : Hid (RdF w A xs)) (Y : Hid (RdF w B ys)) (hn : xs.length ≤ 1048576) (hm : ys.length ≤ 1048576) (h : sclB a b xs = true) (h2 : allF ys = true) (h3 : ys.length ≠ xs.length) :
    Calls Try.prog 59 #[scl a b A xs.length c, .slice B ys.length d] w fun e w' => e = .returned (.tuple #[scl 0 0 none 0 0, .int .i64 2]) ∧ Gr w w' := by
  have h := hid h
  have h4 : ((ys.length : Int) == (xs.length : Int)) = false := by simp; omega
  have HS := hid fun (w' : World) (Z : Hid (RdF w' B ys)) => h2 ▸ iFracs B d ys w' Z hm
  go_enter Try.func59, Try.ntmps59
  go_wp2_with fail
  refine (iScT a b A c xs _ (hid (X.out.keep ((((Gr.refl w).al _).al _).al _))) hn h.out).mono ?_
  rintro e w1 ⟨rfl, hg1⟩
  obtain ⟨x1_0, x1_1, x1_2, hz1, g1⟩ := alloc3 hg1
  obtain ⟨_, _, _⟩ := cells3 x1_0
  have _ := fz x1_0
  have _ := ltb x1_0
  have _ := cells1 x1_1
  have _ := fz x1_1
  have _ := ltb x1_1
  obtain ⟨_, _, _⟩ := cells3 x1_2
  have _ := fz x1_2
  have _ := ltb x1_2
  have X1_0 := hid x1_0; clear x1_0
  have X1_1 := hid x1_1; clear x1_1
  have X1_2 := hid x1_2; clear x1_2
  have G1 := hid (g1)
  clear hg1 g1
  go_wp2_with fail
  refine (HS.out _ (hid (Y.out.keep G1.out))).mono ?_
  rintro e w2 ⟨rfl, hg2⟩
  have x2_1 := hg2.keep X1_0.out
  have x2_2 := hg2.keep X1_1.out
  have x2_3 := hg2.keep X1_2.out
  obtain ⟨_, _, _⟩ := cells3 x2_1
  have _ := fz x2_1
  have _ := ltb x2_1
  have _ := cells1 x2_2
  have _ := fz x2_2
  have _ := ltb x2_2
  obtain ⟨_, _, _⟩ := cells3 x2_3
  have _ := fz x2_3
  have _ := ltb x2_3
  have X2_1 := hid x2_1; clear x2_1
  have X2_2 := hid x2_2; clear x2_2
  have X2_3 := hid x2_3; clear x2_3
  have G2 := hid (G1.out.trans hg2)
  clear hg2
  go_wp2
  refine bodyPost_ret (v := .tuple #[scl 0 0 none 0 0, .int .i64 2]) (by simp [results, Try.results59, go_sem, *]) rfl ⟨rfl, ?_⟩
  exact (((G2.out).setCell (by simp <;> omega) _).setCell (by simp <;> omega) _).setCell (by simp <;> omega) _
set_option maxRecDepth 20000 in
set_option maxHeartbeats 2000000 in
theorem iCS_4 (a b : Int) (A B : Option Addr) (c d : Nat) (xs ys : List (Int × Int)) (w : World) (X : Hid (RdF w A xs)) (Y : Hid (RdF w B ys)) (h : sclB a b xs = true) (h2 : allF ys = true) (h3 : Hid (ys.length = xs.length)) :
    Calls Try.prog 59 #[scl a b A xs.length c, .slice B xs.length d] w fun e w' => (AllC xs ys ∧ ((sclB a b (csL xs ys) = true ∧ GivesS w w' e a b (csL xs ys) 0) ∨ (sclB a b (csL xs ys) = false ∧ GivesS w w' e 0 0 [] 4))) ∨ (¬ AllC xs ys ∧ GivesS w w' e 0 0 [] 3) := by
  have hS := scl_of h
  have hl : xs.length ≤ 60 := hS.hi
  have hl1 : 2 ≤ xs.length := hS.lo
  have hn : xs.length ≤ 1048576 := by omega
  have HCE := hid fun (w' : World) (k1 k2 : Nat) (Z1 : Hid (w'.heap[k1]? = some (.cells #[.int .i64 a, .int .i64 b, .slice A xs.length c] 37))) (Z2 : Hid (w'.heap[k2]? = some (.cells #[.slice B xs.length d] 35))) (Z : Hid (RdF w' A xs)) (Z' : Hid (RdF w' B ys)) => cco a b A B c d k1 k2 xs ys w' _ _ Z1 Z2 Z Z' (by omega) (by omega) h3 hS.all h2
  have HS := hid fun (w' : World) (Z : Hid (RdF w' B ys)) => h3.out ▸ h2 ▸ iFracs B d ys w' Z (by rw [h3.out]; exact hn)
  have HLEN : Hid ((csL xs ys).length = xs.length) := hid (csL_len h3.out)
  have h := hid h
  clear hS h2
  by_cases hok : AllC xs ys
  · have HOK := hid hok; clear hok
    go_enter Try.func59, Try.ntmps59
    go_wp2_with fail
    refine (iScT a b A c xs _ (hid (X.out.keep ((((Gr.refl w).al _).al _).al _))) hn h.out).mono ?_
    rintro e w1 ⟨rfl, hg1⟩
    obtain ⟨x1_0, x1_1, x1_2, hz1, g1⟩ := alloc3 hg1
    obtain ⟨_, _, _⟩ := cells3 x1_0
    have _ := fz x1_0
    have _ := ltb x1_0
    have _ := cells1 x1_1
    have _ := fz x1_1
    have _ := ltb x1_1
    obtain ⟨_, _, _⟩ := cells3 x1_2
    have _ := fz x1_2
    have _ := ltb x1_2
    have X1_0 := hid x1_0; clear x1_0
    have X1_1 := hid x1_1; clear x1_1
    have X1_2 := hid x1_2; clear x1_2
    have G1 := hid (g1)
    clear hg1 g1
    go_wp2_with fail
    refine (HS.out _ (hid (Y.out.keep G1.out))).mono ?_
    rintro e w2 ⟨rfl, hg2⟩
    have x2_1 := hg2.keep X1_0.out
    have x2_2 := hg2.keep X1_1.out
    have x2_3 := hg2.keep X1_2.out
    obtain ⟨_, _, _⟩ := cells3 x2_1
    have _ := fz x2_1
    have _ := ltb x2_1
    have _ := cells1 x2_2
    have _ := fz x2_2
    have _ := ltb x2_2
    obtain ⟨_, _, _⟩ := cells3 x2_3
    have _ := fz x2_3
    have _ := ltb x2_3
    have X2_1 := hid x2_1; clear x2_1
    have X2_2 := hid x2_2; clear x2_2
    have X2_3 := hid x2_3; clear x2_3
    have G2 := hid (G1.out.trans hg2)
    clear hg2
    go_wp2_with fail
    refine (toldS_ok 121 #[.pointer (some ⟨w.heap.size, 0, none⟩), .pointer (some ⟨w.heap.size + 1, 0, none⟩)] a b xs.length (csL xs ys) _ (fun _ => by kernel_rfl) fun w' hg' => (HCE.out w' _ _ (hid (hg'.keep X2_1.out)) (hid (hg'.keep X2_2.out)) (hid (X.out.keep (G2.out.trans hg'))) (hid (Y.out.keep (G2.out.trans hg')))).mono ?_).mono ?_
    · rintro e w'' ⟨⟨_, A', c', rfl, own⟩ | ⟨hv, _⟩, hg⟩
      · exact ⟨A', c', rfl, own, hg⟩
      · exact absurd HOK.out hv
    rintro e w4 ⟨A', c', rfl, own, hg4⟩
    have OWN := hid own; have G4 := hid (G2.out.trans hg4)
    have Y4 := hid (hg4.keep X2_3.out)
    have hb : w.heap.size + 1 + 1 < w2.heap.size := ltb X2_3.out
    have OWN4 := hid (own_gr OWN.out ((Gr.refl w4).al (.cells #[.int .i64 a, .int .i64 b, .slice A' xs.length c'] 37)))
    have own5 : (w4.alloc (.cells #[.int .i64 a, .int .i64 b, .slice A' xs.length c'] 37)).ownsRow w2.heap.size 34 2 (.slice A' (csL xs ys).length c') (csL xs ys).length (flatL (csL xs ys)) := by rw [HLEN.out]; exact OWN4.out
    have RO : Hid (RdF (w4.alloc (.cells #[.int .i64 a, .int .i64 b, .slice A' xs.length c'] 37)) A' (csL xs ys)) := hid (RdF.of_ownF own5)
    have Y5 := hid (((Gr.refl w4).al (.cells #[.int .i64 a, .int .i64 b, .slice A' xs.length c'] 37)).keep Y4.out)
    clear own hg4 own5
    obtain ⟨_, _, _⟩ := cells3 Y4.out
    have _ := fz Y4.out
    have _ := ltb Y4.out
    cases hsc : sclB a b (csL xs ys) with
    | true =>
      have HSC := hid hsc
      have HOR := hid fun (w' : World) (Z : Hid (RdF w' A' (csL xs ys))) => HLEN.out ▸ iOr_t 4 a b A' c' (csL xs ys) w' Z (by rw [HLEN.out]; exact hn) HSC.out
      go_wp2_with fail
      refine (HOR.out _ RO).mono ?_
      rintro e w7 ⟨rfl, hg7⟩
      have OWN7 := hid (own_gr OWN4.out hg7); have Z7 := hid (hg7.keep Y5.out); have G7 := hid ((G4.out.al (.cells #[.int .i64 a, .int .i64 b, .slice A' xs.length c'] 37)).trans hg7)
      clear hg7 hsc
      obtain ⟨_, _, _⟩ := cells3 Z7.out
      have _ := fz Z7.out
      have _ := ltb Z7.out
      go_wp2_with fail
      refine bodyPost_ret (v := .tuple #[scl a b A' xs.length c', .int .i64 0]) (by simp [results, Try.results59, go_sem, *]) rfl ?_
      exact .inl ⟨HOK.out, .inl ⟨HSC.out, A', c', by rw [HLEN.out], by rw [HLEN.out]; exact own_base (base' := w.heap.size) (own_low (own_low (own_low OWN7.out (by simpa using hb) _) (by simpa using hb) _) (by simpa using hb) _) (by omega), ((G7.out.setCell (by simp; omega) _).setCell (by simp; omega) _).setCell (by simp; omega) _⟩⟩
    | false =>
      have HSC := hid hsc
      have HOR := hid fun (w' : World) (Z : Hid (RdF w' A' (csL xs ys))) => HLEN.out ▸ iOr_f 4 a b A' c' (csL xs ys) w' Z (by rw [HLEN.out]; exact hn) HSC.out
      go_wp2_with fail
      refine (HOR.out _ RO).mono ?_
      rintro e w7 ⟨rfl, hg7⟩
      have Z7 := hid (hg7.keep Y5.out); have G7 := hid ((G4.out.al (.cells #[.int .i64 a, .int .i64 b, .slice A' xs.length c'] 37)).trans hg7)
      clear hg7 hsc
      obtain ⟨_, _, _⟩ := cells3 Z7.out
      have _ := fz Z7.out
      have _ := ltb Z7.out
      go_wp2_with fail
      refine bodyPost_ret (v := .tuple #[scl 0 0 none 0 0, .int .i64 4]) (by simp [results, Try.results59, go_sem, *]) rfl ?_
      exact .inl ⟨HOK.out, .inr ⟨HSC.out, _, _, rfl, own_nilF _ _, ((G7.out.setCell (by simp; omega) _).setCell (by simp; omega) _).setCell (by simp; omega) _⟩⟩
  · have HOK := hid hok; clear hok
    go_enter Try.func59, Try.ntmps59
    go_wp2_with fail
    refine (iScT a b A c xs _ (hid (X.out.keep ((((Gr.refl w).al _).al _).al _))) hn h.out).mono ?_
    rintro e w1 ⟨rfl, hg1⟩
    obtain ⟨x1_0, x1_1, x1_2, hz1, g1⟩ := alloc3 hg1
    obtain ⟨_, _, _⟩ := cells3 x1_0
    have _ := fz x1_0
    have _ := ltb x1_0
    have _ := cells1 x1_1
    have _ := fz x1_1
    have _ := ltb x1_1
    obtain ⟨_, _, _⟩ := cells3 x1_2
    have _ := fz x1_2
    have _ := ltb x1_2
    have X1_0 := hid x1_0; clear x1_0
    have X1_1 := hid x1_1; clear x1_1
    have X1_2 := hid x1_2; clear x1_2
    have G1 := hid (g1)
    clear hg1 g1
    go_wp2_with fail
    refine (HS.out _ (hid (Y.out.keep G1.out))).mono ?_
    rintro e w2 ⟨rfl, hg2⟩
    have x2_1 := hg2.keep X1_0.out
    have x2_2 := hg2.keep X1_1.out
    have x2_3 := hg2.keep X1_2.out
    obtain ⟨_, _, _⟩ := cells3 x2_1
    have _ := fz x2_1
    have _ := ltb x2_1
    have _ := cells1 x2_2
    have _ := fz x2_2
    have _ := ltb x2_2
    obtain ⟨_, _, _⟩ := cells3 x2_3
    have _ := fz x2_3
    have _ := ltb x2_3
    have X2_1 := hid x2_1; clear x2_1
    have X2_2 := hid x2_2; clear x2_2
    have X2_3 := hid x2_3; clear x2_3
    have G2 := hid (G1.out.trans hg2)
    clear hg2
    go_wp2_with fail
    refine (toldS_great 121 #[.pointer (some ⟨w.heap.size, 0, none⟩), .pointer (some ⟨w.heap.size + 1, 0, none⟩)] _ (fun _ => by kernel_rfl) fun w' hg' => (HCE.out w' _ _ (hid (hg'.keep X2_1.out)) (hid (hg'.keep X2_2.out)) (hid (X.out.keep (G2.out.trans hg'))) (hid (Y.out.keep (G2.out.trans hg')))).mono ?_).mono ?_
    · rintro e w'' ⟨⟨hv, _⟩ | ⟨_, hp⟩, hg⟩
      · exact absurd hv HOK.out
      · exact ⟨hp, hg⟩
    rintro e w4 ⟨rfl, hg4⟩
    have G4 := hid (G2.out.trans hg4)
    have Y4 := hid (hg4.keep X2_3.out)
    clear hg4
    obtain ⟨_, _, _⟩ := cells3 Y4.out
    have _ := fz Y4.out
    have _ := ltb Y4.out
    go_wp2_with fail
    refine bodyPost_ret (v := .tuple #[scl 0 0 none 0 0, .int .i64 3]) (by simp [results, Try.results59, go_sem, *]) rfl ?_
    exact .inr ⟨HOK.out, _, _, rfl, own_nilF _ _, (((G4.out.setCell (by simp; omega) _).setCell (by simp; omega) _).setCell (by simp; omega) _).al _⟩
end Go.Proofs.Ytfpcbgfcachlgaa
namespace Go.Proofs.Ytfpcbgfcachlgaa
open Go.RowKit Go.Sort

set_option maxRecDepth 20000 in
set_option maxHeartbeats 1000000 in
theorem sCS_0 (a b : Int) (A B : Option Addr) (c d : Nat) (xs ys : List (Int × Int)) (w : World) (X : Hid (RdF w A xs)) (hn : xs.length ≤ 1048576) (_hm : ys.length ≤ 1048576) (h : sclB a b xs = false) :
    Calls Try.prog 53 #[scl a b A xs.length c, .slice B ys.length d] w fun e w' => e = .returned (.tuple #[scl 0 0 none 0 0, .int .i64 1]) ∧ Gr w w' := by
  have h := hid h
  go_enter Try.func53, Try.ntmps53
  go_wp2_with fail
  refine (sScF a b A c _ xs _ (hid (alloc2 (Gr.refl _)).1) (hid (X.out.keep (((Gr.refl w).al _).al _))) hn h.out).mono ?_
  rintro e w1 ⟨rfl, hg1⟩
  obtain ⟨x1_0, x1_1, hz1, g1⟩ := alloc2 hg1
  obtain ⟨_, _, _⟩ := cells3 x1_0
  have _ := fz x1_0
  have _ := ltb x1_0
  obtain ⟨_, _, _⟩ := cells3 x1_1
  have _ := fz x1_1
  have _ := ltb x1_1
  have X1_0 := hid x1_0; clear x1_0
  have X1_1 := hid x1_1; clear x1_1
  have G1 := hid (g1)
  clear hg1 g1
  go_wp2_with fail
  go_loopw [6, 7] (fun o u wr => u = .int .i64 0 ∧ o = .bool false ∧ wr = w1) (fun _ _ _ => 0)
  case atStart => exact ⟨rfl, rfl, rfl⟩
  case round =>
    obtain ⟨rfl, rfl, rfl⟩ := hrel
    obtain ⟨_, _, _⟩ := cells3 X1_1.out
    have _ := fz X1_1.out
    have _ := ltb X1_1.out
    by_cases hlt : 0 < ys.length
    all_goals
      go_wp2_with fail
      refine bodyPost_ret (v := .tuple #[scl 0 0 none 0 0, .int .i64 1]) (by simp [results, Try.results53, go_sem, *]) rfl ?_
      exact ⟨rfl, ((G1.out.setCell (by simp <;> omega) _).setCell (by simp <;> omega) _).setCell (by simp <;> omega) _⟩
set_option maxRecDepth 20000 in
set_option maxHeartbeats 1000000 in
theorem sCS_1 (a b : Int) (A B : Option Addr) (c d : Nat) (xs ys : List (Int × Int)) (w : World) (X : Hid (RdF w A xs)) (Y : Hid (RdF w B ys)) (hn : xs.length ≤ 1048576) (hm : ys.length ≤ 1048576) (h : sclB a b xs = true) (h2 : allF ys = false) :
    Calls Try.prog 53 #[scl a b A xs.length c, .slice B ys.length d] w fun e w' => e = .returned (.tuple #[scl 0 0 none 0 0, .int .i64 1]) ∧ Gr w w' := by
  have h := hid h; have H2 := hid h2
  clear h2
  go_enter Try.func53, Try.ntmps53
  go_wp2_with fail
  refine (sScT a b A c _ xs _ (hid (alloc2 (Gr.refl _)).1) (hid (X.out.keep (((Gr.refl w).al _).al _))) hn h.out).mono ?_
  rintro e w1 ⟨rfl, hg1⟩
  obtain ⟨x1_0, x1_1, hz1, g1⟩ := alloc2 hg1
  obtain ⟨_, _, _⟩ := cells3 x1_0
  have _ := fz x1_0
  have _ := ltb x1_0
  obtain ⟨_, _, _⟩ := cells3 x1_1
  have _ := fz x1_1
  have _ := ltb x1_1
  have X1_0 := hid x1_0; clear x1_0
  have X1_1 := hid x1_1; clear x1_1
  have G1 := hid (g1)
  clear hg1 g1
  go_wp2_with fail
  go_loopw [6, 7] (fun o u wr => ∃ (k : Nat) (b : Bool), u = .int .i64 (k : Int) ∧ o = .bool b ∧ k ≤ ys.length ∧ Gr w1 wr ∧ (b = true → (ys.take k).all (fun x => okB x.1 x.2) = true)) (fun _ u _ => ys.length - (intOf u).toNat)
  case atStart => exact ⟨0, _, rfl, rfl, by omega, Gr.refl _, fun _ => rfl⟩
  case round =>
    obtain ⟨k, b, rfl, rfl, hk, hg, hb⟩ := hrel
    have GV := hid (G1.out.trans hg); have GW := hid hg; have HB := hid hb
    have Y2 := hid (hg.keep X1_1.out)
    clear hg hb
    cases b with
    | false =>
      obtain ⟨_, _, _⟩ := cells3 Y2.out
      have _ := fz Y2.out
      have _ := ltb Y2.out
      by_cases hlt : k < ys.length
      all_goals
        go_wp2_with fail
        refine bodyPost_ret (v := .tuple #[scl 0 0 none 0 0, .int .i64 1]) (by simp [results, Try.results53, go_sem, *]) rfl ?_
        exact ⟨rfl, ((GV.out.setCell (by simp <;> omega) _).setCell (by simp <;> omega) _).setCell (by simp <;> omega) _⟩
    | true =>
      by_cases hlt : k < ys.length
      · obtain ⟨⟨p, q⟩, hpq⟩ : ∃ pq, ys[k]? = some pq := ⟨ys[k], List.getElem?_eq_getElem _⟩
        obtain ⟨ad, rfl, c1, c2⟩ := (Y.out.keep GV.out) k p q hpq
        have HP := hid hpq; clear hpq
        cases hx : okB p q with
        | true =>
          have HX := hid hx; clear hx
          go_wp2_with fail
          refine (sok_t _ _ _ HX.out).mono ?_
          rintro e w1 ⟨rfl, hg1⟩
          have G1 := hid (GW.out.trans hg1)
          clear hg1
          go_wp2_with fail
          exact ⟨⟨k + 1, _, by simp, rfl, by omega, G1.out, fun _ => all_take HP.out (HB.out (by simp)) HX.out⟩, by simp [intOf]; omega⟩
        | false =>
          have HX := hid hx; clear hx
          go_wp2_with fail
          refine (sok_f _ _ _ HX.out).mono ?_
          rintro e w1 ⟨rfl, hg1⟩
          have G1 := hid (GW.out.trans hg1)
          clear hg1
          go_wp2_with fail
          exact ⟨⟨k + 1, _, by simp, rfl, by omega, G1.out, fun h => by cases h⟩, by simp [intOf]; omega⟩
      · exfalso
        have hke : k = ys.length := by omega
        have h5 := HB.out (by simp)
        rw [hke, List.take_length] at h5
        have h6 := H2.out
        unfold allF at h6
        rw [h5] at h6
        cases h6
set_option maxRecDepth 20000 in
set_option maxHeartbeats 1000000 in
theorem sCS_2 (a b : Int) (A B : Option Addr) (c d : Nat) (xs ys : List (Int × Int)) (w : World) (X : Hid (RdF w A xs)) (Y : Hid (RdF w B ys)) (hn : xs.length ≤ 1048576) (hm : ys.length ≤ 1048576) (h : sclB a b xs = true) (h2 : allF ys = true) (h3 : ys.length ≠ xs.length) :
    Calls Try.prog 53 #[scl a b A xs.length c, .slice B ys.length d] w fun e w' => e = .returned (.tuple #[scl 0 0 none 0 0, .int .i64 2]) ∧ Gr w w' := by
  have h := hid h; have HALL := hid h2
  have h4 : ((ys.length : Int) == (xs.length : Int)) = false := by simp; omega
  clear h2
  go_enter Try.func53, Try.ntmps53
  go_wp2_with fail
  refine (sScT a b A c _ xs _ (hid (alloc2 (Gr.refl _)).1) (hid (X.out.keep (((Gr.refl w).al _).al _))) hn h.out).mono ?_
  rintro e w1 ⟨rfl, hg1⟩
  obtain ⟨x1_0, x1_1, hz1, g1⟩ := alloc2 hg1
  obtain ⟨_, _, _⟩ := cells3 x1_0
  have _ := fz x1_0
  have _ := ltb x1_0
  obtain ⟨_, _, _⟩ := cells3 x1_1
  have _ := fz x1_1
  have _ := ltb x1_1
  have X1_0 := hid x1_0; clear x1_0
  have X1_1 := hid x1_1; clear x1_1
  have G1 := hid (g1)
  clear hg1 g1
  go_wp2_with fail
  go_loopw [6, 7] (fun o u wr => ∃ (k : Nat), u = .int .i64 (k : Int) ∧ o = .bool true ∧ k ≤ ys.length ∧ Gr w1 wr) (fun _ u _ => ys.length - (intOf u).toNat)
  case atStart => exact ⟨0, rfl, rfl, by omega, Gr.refl _⟩
  case round =>
    obtain ⟨k, rfl, rfl, hk, hg⟩ := hrel
    have GV := hid (G1.out.trans hg); have GW := hid hg
    have Y2 := hid (hg.keep X1_1.out); have Y1 := hid (hg.keep X1_0.out)
    clear hg
    by_cases hlt : k < ys.length
    · obtain ⟨⟨p, q⟩, hpq⟩ : ∃ pq, ys[k]? = some pq := ⟨ys[k], List.getElem?_eq_getElem _⟩
      obtain ⟨ad, rfl, c1, c2⟩ := (Y.out.keep GV.out) k p q hpq
      have HX := hid (allF_get HALL.out hpq); clear hpq
      go_wp2_with fail
      refine (sok_t _ _ _ HX.out).mono ?_
      rintro e w1 ⟨rfl, hg1⟩
      have G1 := hid (GW.out.trans hg1)
      clear hg1
      go_wp2_with fail
      exact ⟨⟨k + 1, by simp, rfl, by omega, G1.out⟩, by simp [intOf]; omega⟩
    · obtain ⟨_, _, _⟩ := cells3 Y1.out
      obtain ⟨_, _, _⟩ := cells3 Y2.out
      have _ := fz Y2.out
      have _ := ltb Y2.out
      go_wp2_with fail
      refine bodyPost_ret (v := .tuple #[scl 0 0 none 0 0, .int .i64 2]) (by simp [results, Try.results53, go_sem, *]) rfl ?_
      exact ⟨rfl, ((GV.out.setCell (by simp <;> omega) _).setCell (by simp <;> omega) _).setCell (by simp <;> omega) _⟩
set_option maxRecDepth 20000 in
set_option maxHeartbeats 4000000 in
theorem sCS_4 (a b : Int) (A B : Option Addr) (c d : Nat) (xs ys : List (Int × Int)) (w : World) (X : Hid (RdF w A xs)) (Y : Hid (RdF w B ys)) (h : sclB a b xs = true) (h2 : allF ys = true) (h3 : Hid (ys.length = xs.length)) :
    Calls Try.prog 53 #[scl a b A xs.length c, .slice B xs.length d] w fun e w' => (AllC xs ys ∧ ((sclB a b (csL xs ys) = true ∧ GivesS w w' e a b (csL xs ys) 0) ∨ (sclB a b (csL xs ys) = false ∧ GivesS w w' e 0 0 [] 4))) ∨ (¬ AllC xs ys ∧ GivesS w w' e 0 0 [] 3) := by
  obtain ⟨i0, hi, iz0, iz1, iz2⟩ : ∃ i, Try.prog.info? 34 = some i ∧ i.zero = some (fr 0 0) ∧ i.size = 2 ∧ i.bytes = 16 := ⟨_, rfl, rfl, rfl, rfl⟩
  have hS := scl_of h
  have hl : xs.length ≤ 60 := hS.hi
  have hl1 : 2 ≤ xs.length := hS.lo
  have hn : xs.length ≤ 1048576 := by omega
  have HX := hid hS.all; have HY := hid h2
  have HLEN : Hid ((csL xs ys).length = xs.length) := hid (csL_len h3.out)
  have h := hid h
  clear hS h2
  go_enter Try.func53, Try.ntmps53
  go_wp2_with fail
  refine (sScT a b A c _ xs _ (hid (alloc2 (Gr.refl _)).1) (hid (X.out.keep (((Gr.refl w).al _).al _))) hn h.out).mono ?_
  rintro e w1 ⟨rfl, hg1⟩
  obtain ⟨x1_0, x1_1, hz1, g1⟩ := alloc2 hg1
  obtain ⟨_, _, _⟩ := cells3 x1_0
  have _ := fz x1_0
  have _ := ltb x1_0
  obtain ⟨_, _, _⟩ := cells3 x1_1
  have _ := fz x1_1
  have _ := ltb x1_1
  have X1_0 := hid x1_0; clear x1_0
  have X1_1 := hid x1_1; clear x1_1
  have G1 := hid (g1)
  clear hg1 g1
  go_wp2_with fail
  go_loopw [6, 7] (fun o u wr => ∃ (k : Nat), u = .int .i64 (k : Int) ∧ o = .bool true ∧ k ≤ xs.length ∧ Gr w1 wr) (fun _ u _ => xs.length - (intOf u).toNat)
  case atStart => exact ⟨0, rfl, rfl, by omega, Gr.refl _⟩
  case round =>
    obtain ⟨k, rfl, rfl, hk, hg⟩ := hrel
    have GV0 := hid (G1.out.trans hg); have GW0 := hid hg
    have Y2 := hid (hg.keep X1_1.out); have Y1 := hid (hg.keep X1_0.out)
    clear hg
    by_cases hlt : k < xs.length
    · have hlt2 : k < ys.length := by rw [h3.out]; exact hlt
      obtain ⟨⟨p, q⟩, hpq⟩ : ∃ pq, ys[k]? = some pq := ⟨ys[k], List.getElem?_eq_getElem _⟩
      obtain ⟨ad, rfl, c1, c2⟩ := (Y.out.keep GV0.out) k p q hpq
      have HX := hid (allF_get HY.out hpq); clear hpq hlt2
      go_wp2_with fail
      refine (sok_t _ _ _ HX.out).mono ?_
      rintro e w1 ⟨rfl, hg1⟩
      have G1 := hid (GW0.out.trans hg1)
      clear hg1
      go_wp2_with fail
      exact ⟨⟨k + 1, by simp, rfl, by omega, G1.out⟩, by simp [intOf]; omega⟩
    · obtain ⟨W4, hW4⟩ : ∃ W4, W4 = wr := ⟨_, rfl⟩
      subst hW4
      obtain ⟨_, _, _⟩ := cells3 Y1.out
      have hb2 : w.heap.size + 1 < W4.heap.size := ltb Y2.out
      go_wp2_with fail
      clear hk hlt
      go_loopw [9] (fun u wr => ∃ (k : Nat) (A' : Option Addr) (c' : Nat), u = .int .i64 (k : Int) ∧ k ≤ xs.length ∧ Gr W4 wr ∧ wr.heap[W4.heap.size]? = some (.cells #[.int .i64 a, .int .i64 b, .slice A' k c'] 37) ∧ wr.ownsRow W4.heap.size 34 2 (.slice A' k c') k (flatL ((csL xs ys).take k)) ∧ (∀ (i : Nat) (p q s t : Int), i < k → xs[i]? = some (p, q) → ys[i]? = some (s, t) → sbB p q s t = true)) (fun u _ => xs.length - (intOf u).toNat)
      case atStart => exact ⟨0, none, 0, rfl, by omega, (Gr.refl _).al _, (alloc1 (w := W4) (A := .cells #[.int .i64 a, .int .i64 b, .slice none 0 0] 37) (Gr.refl _)).1, by simpa using own_nilF _ _, fun i p q s t h => by omega⟩
      case round =>
        obtain ⟨k, A', c', rfl, hk, hg, hsc, hown, hok⟩ := hrel
        have GW := hid hg; have OWN := hid hown; have HOK := hid hok; have Y8 := hid hsc
        have GV := hid (GV0.out.trans hg)
        have Y3 := hid (hg.keep Y2.out); have YB := hid (hg.keep Y1.out)
        clear hg hown hok hsc
        by_cases hlt : k < xs.length
        · obtain ⟨⟨p, q⟩, hp⟩ : ∃ pq, xs[k]? = some pq := ⟨xs[k], List.getElem?_eq_getElem _⟩
          have hlt2 : k < ys.length := by rw [h3.out]; exact hlt
          obtain ⟨⟨s, t⟩, hs⟩ : ∃ pq, ys[k]? = some pq := ⟨ys[k], List.getElem?_eq_getElem _⟩
          clear hlt2
          have HPQ := hid (allF_get HX.out hp)
          have HST := hid (allF_get HY.out hs)
          obtain ⟨ad, rfl, c1, c2⟩ := (X.out.keep GV.out) k p q hp
          obtain ⟨ad2, rfl, d1, d2⟩ := (Y.out.keep GV.out) k s t hs
          have C1 := hid c1; have C2 := hid c2; have D1 := hid d1; have D2 := hid d2; have HP := hid hp; have HS := hid hs
          clear c1 c2 d1 d2 hp hs
          cases hd : sbB p q s t with
          | true =>
            have HD := hid hd
            have hpl := fun w => ssubv_t p q s t w HPQ.out HST.out HD.out
            have hsu := csL_take HP.out HS.out
            obtain ⟨P, hP⟩ : ∃ P, sbP p q s t = P := ⟨_, rfl⟩
            obtain ⟨Q, hQ⟩ : ∃ Q, sbQ p q s t = Q := ⟨_, rfl⟩
            rw [hP, hQ] at hpl hsu
            have HPL := hid hpl; have HSU := hid hsu
            clear hd hpl hP hQ hsu
            obtain ⟨_, _, _⟩ := cells3 Y8.out
            have _ := fz Y8.out
            have _ := ltb Y8.out
            obtain ⟨_, _, _⟩ := cells3 YB.out
            have _ := fz YB.out
            have _ := ltb YB.out
            go_wp2_with fail
            refine wp_reg1s #[.int .i64 0, .int .i64 0] 15 13 10 14 57 (by kernel_rfl) (by kernel_rfl) rfl rfl (by simp) rfl rfl (by decide) (fun _ _ => by kernel_rfl) (by kernel_rfl) ?_
            apply Exists.intro; apply Exists.intro
            refine ⟨fun wb hb => ?_, ?_⟩
            · obtain ⟨_, _, _⟩ := hb.at3 Y8.out
              obtain ⟨_, _, _⟩ := hb.at3 YB.out
              have _ := hb.atF C1.out; have _ := hb.atF C2.out; have _ := hb.atF D1.out; have _ := hb.atF D2.out
              simp only [headOps, List.contains, List.elem, Nat.reduceAdd, Nat.reduceBEq, reduceIte, Bool.false_eq_true, dumOp]
              repeat (first | go_big_quiet_step (first | (go_at_call 113; exact Calls.of_gr (HPL.out _))) | quiet_step (fail))
              exact wpQuiet_nil rfl
            refine ⟨rfl, ⟨rfl, by simp [Value.oneCell']⟩, fun w5 b5 hg5 _ xb5 => ?_⟩
            have OWN5 := hid (own_gr OWN.out (hg5.al (.cells #[.int .i64 P, .int .i64 Q] 34)))
            have NEW := hid (one_newsF (w := w5.alloc (.cells #[.int .i64 P, .int .i64 Q] 34)) (b := w5.heap.size) (alloc1 (Gr.refl _)).1)
            have G5 := hid ((GW.out.trans hg5).al (.cells #[.int .i64 P, .int .i64 Q] 34))
            have Y5 := hid (hg5.keep Y8.out)
            have hsz := G5.out.size
            obtain ⟨_, _⟩ := cells2 xb5
            have _ := fz xb5
            have _ := ltb xb5
            obtain ⟨_, _, _⟩ := cells3 Y5.out
            have _ := ltb Y5.out
            have Z5 := hid (((Gr.refl w5).al (.cells #[.int .i64 P, .int .i64 Q] 34)).keep Y5.out)
            have hne := own_ne OWN5.out Z5.out
            clear hg5 xb5 OWN
            go_wp2_with (at_builtin; refine (wpList_append_gr rfl _ _ 35 rfl W4.heap.size 34 i0 (fr 0 0) 2 16 Try.underlying35 hi iz0 iz1 iz2 rfl (by decide) _ k _ rfl OWN5.out ⟨w5.heap.size, 0, none⟩ 1 1 [.int .i64 P, .int .i64 Q] rfl rfl NEW.out (by simp [Value.oneCell']) (by decide) (by unfold maxLen; omega) (by omega) hsz ?_))
            intro v' w6 own6 hgrow _ hgr
            obtain ⟨A2, c2, rfl⟩ := own_form own6
            rw [flatL_app, ← HSU.out] at own6
            have y6 := (hgrow.block W4.heap.size (ltb Z5.out) (Ne.symm hne)).trans Z5.out
            have OWN6 := hid own6; have Y6 := hid y6
            have G6 := hid (hgr _ G5.out (Nat.le_refl _))
            obtain ⟨_, _, _⟩ := cells3 Y6.out
            have _ := fz Y6.out
            clear own6 y6 hgrow hgr OWN5 NEW hsz hne Y5 Z5
            go_wp2_with fail
            refine ⟨⟨k + 1, A2, c2, by simp, by omega, G6.out.setCell (by simp) _, by simpa using Joins.block_setCell (i := 2) Y6.out _, own_setS OWN6.out Y6.out _, fun i p' q' s' t' hi hp' hs' => ?_⟩, by simp [intOf]; omega⟩
            by_cases hik : i = k
            · subst hik
              have e1 := HP.out.symm.trans hp'
              have e2 := HS.out.symm.trans hs'
              cases e1
              cases e2
              exact HD.out
            · exact HOK.out i p' q' s' t' (by omega) hp' hs'
          | false =>
            have HD := hid hd
            have HPL := hid fun w => ssubv_f p q s t w HPQ.out HST.out HD.out
            have HNA : Hid (¬ AllC xs ys) := hid fun h => by have := h k p q s t HP.out HS.out; rw [HD.out] at this; cases this
            clear hd
            obtain ⟨_, _, _⟩ := cells3 Y8.out
            have _ := fz Y8.out
            have _ := ltb Y8.out
            obtain ⟨_, _, _⟩ := cells3 YB.out
            have _ := fz YB.out
            have _ := ltb YB.out
            go_wp2_with fail
            refine wp_reg1s #[.int .i64 0, .int .i64 0] 15 13 10 14 57 (by kernel_rfl) (by kernel_rfl) rfl rfl (by simp) rfl rfl (by decide) (fun _ _ => by kernel_rfl) (by kernel_rfl) ?_
            apply Exists.intro; apply Exists.intro
            refine ⟨fun wb hb => ?_, ?_⟩
            · obtain ⟨_, _, _⟩ := hb.at3 Y8.out
              obtain ⟨_, _, _⟩ := hb.at3 YB.out
              have _ := hb.atF C1.out; have _ := hb.atF C2.out; have _ := hb.atF D1.out; have _ := hb.atF D2.out
              simp only [headOps, List.contains, List.elem, Nat.reduceAdd, Nat.reduceBEq, reduceIte, Bool.false_eq_true, dumOp]
              repeat (first | go_big_quiet_step (first | (go_at_call 113; exact Calls.of_gr (HPL.out _))) | quiet_step (fail))
              exact wpQuiet_nil rfl
            refine ⟨rfl, ⟨rfl, by simp [Value.oneCell']⟩, fun w5 b5 hg5 _ xb5 => ?_⟩
            have G5 := hid (GV.out.trans hg5)
            have Y5 := hid (hg5.keep Y3.out)
            obtain ⟨_, _, _⟩ := cells3 Y5.out
            have _ := fz Y5.out
            have _ := ltb Y5.out
            clear hg5 xb5
            go_wp2_with fail
            refine bodyPost_ret (v := .tuple #[scl 0 0 none 0 0, .int .i64 3]) (by simp [results, Try.results53, go_sem, *]) rfl ?_
            exact .inr ⟨HNA.out, _, _, rfl, own_nilF _ _, ((G5.out.setCell (by simp <;> omega) _).setCell (by simp <;> omega) _).setCell (by simp <;> omega) _⟩
        · have hke : k = xs.length := by omega
          subst hke
          have htk : (csL xs ys).take xs.length = csL xs ys := by rw [← HLEN.out]; exact List.take_length
          rw [htk] at OWN
          have OWNL : Hid (wr.ownsRow W4.heap.size 34 2 (.slice A' (csL xs ys).length c') (csL xs ys).length (flatL (csL xs ys))) := hid (by rw [HLEN.out]; exact OWN.out)
          have RO := hid (RdF.of_ownF OWNL.out)
          have HEF : Hid (AllC xs ys) := hid fun k p q s t hp hs => HOK.out k p q s t (List.getElem?_eq_some_iff.1 hp).1 hp hs
          have Y9 : Hid (wr.heap[W4.heap.size]? = some (.cells #[.int .i64 a, .int .i64 b, .slice A' (csL xs ys).length c'] 37)) := hid (by rw [HLEN.out]; exact Y8.out)
          have hlen : (csL xs ys).length ≤ 1048576 := by rw [HLEN.out]; exact hn
          have HL := hid hlen
          clear htk hlen
          obtain ⟨_, _, _⟩ := cells3 Y8.out
          have _ := fz Y8.out
          have _ := ltb Y8.out
          obtain ⟨_, _, _⟩ := cells3 Y3.out
          have _ := fz Y3.out
          have _ := ltb Y3.out
          cases hsc : sclB a b (csL xs ys) with
          | true =>
            have HSC := hid hsc
            go_wp2_with fail
            refine (sScT a b A' c' _ (csL xs ys) _ Y9 RO HL.out HSC.out).mono ?_
            rintro e w7 ⟨rfl, hg7⟩
            have OWN7 := hid (own_gr OWN.out hg7); have Y7 := hid (hg7.keep Y8.out); have Z7 := hid (hg7.keep Y3.out); have G7 := hid (GV.out.trans hg7)
            clear hg7 hsc
            obtain ⟨_, _, _⟩ := cells3 Y7.out
            have _ := ltb Y7.out
            obtain ⟨_, _, _⟩ := cells3 Z7.out
            have _ := fz Z7.out
            have _ := ltb Z7.out
            go_wp2_with fail
            refine bodyPost_ret (v := .tuple #[scl a b A' xs.length c', .int .i64 0]) (by simp [results, Try.results53, go_sem, *]) rfl ?_
            exact .inl ⟨HEF.out, .inl ⟨HSC.out, A', c', by rw [HLEN.out], by rw [HLEN.out]; exact own_base (base' := w.heap.size) (own_low (own_low (own_low OWN7.out (by simpa using hb2) _) (by simpa using hb2) _) (by simpa using hb2) _) (by omega), ((G7.out.setCell (by simp <;> omega) _).setCell (by simp <;> omega) _).setCell (by simp <;> omega) _⟩⟩
          | false =>
            have HSC := hid hsc
            go_wp2_with fail
            refine (sScF a b A' c' _ (csL xs ys) _ Y9 RO HL.out HSC.out).mono ?_
            rintro e w7 ⟨rfl, hg7⟩
            have Z7 := hid (hg7.keep Y3.out); have G7 := hid (GV.out.trans hg7)
            clear hg7 hsc
            obtain ⟨_, _, _⟩ := cells3 Z7.out
            have _ := fz Z7.out
            have _ := ltb Z7.out
            go_wp2_with fail
            refine bodyPost_ret (v := .tuple #[scl 0 0 none 0 0, .int .i64 4]) (by simp [results, Try.results53, go_sem, *]) rfl ?_
            exact .inl ⟨HEF.out, .inr ⟨HSC.out, _, _, rfl, own_nilF _ _, ((G7.out.setCell (by simp <;> omega) _).setCell (by simp <;> omega) _).setCell (by simp <;> omega) _⟩⟩
theorem bothCorrectScale (a b : Int) (xs ys : List (Int × Int)) (hn : xs.length ≤ 1048576) (hm : ys.length ≤ 1048576) : ∃ (u v : Int) (zs : List (Int × Int)) (C : Int), zs.length ≤ 1048576 ∧
    (∀ (A B : Option Addr) (c d : Nat) (w : World), Hid (RdF w A xs) → Hid (RdF w B ys) → Calls Try.prog 53 #[scl a b A xs.length c, .slice B ys.length d] w fun e w' => GivesS w w' e u v zs C) ∧
    (∀ (A B : Option Addr) (c d : Nat) (w : World), Hid (RdF w A xs) → Hid (RdF w B ys) → Calls Try.prog 59 #[scl a b A xs.length c, .slice B ys.length d] w fun e w' => GivesS w w' e u v zs C) := by
  cases h1 : sclB a b xs with
  | false => exact ⟨0, 0, [], 1, by simp, fun A B c d w X Y => (sCS_0 a b A B c d xs ys w X hn hm h1).mono fun e w' h => gives0 h, fun A B c d w X Y => (iCS_0 a b A B c d xs ys w X hn h1).mono fun e w' h => gives0 h⟩
  | true =>
  cases h2 : allF ys with
  | false => exact ⟨0, 0, [], 1, by simp, fun A B c d w X Y => (sCS_1 a b A B c d xs ys w X Y hn hm h1 h2).mono fun e w' h => gives0 h, fun A B c d w X Y => (iCS_1 a b A B c d xs ys w X Y hn hm h1 h2).mono fun e w' h => gives0 h⟩
  | true =>
  by_cases h3 : ys.length = xs.length
  · rw [h3]
    by_cases hok : AllC xs ys
    · cases hsc : sclB a b (csL xs ys) with
      | true =>
        have pick : ∀ {w w' : World} {e : Ending}, ((AllC xs ys ∧ ((sclB a b (csL xs ys) = true ∧ GivesS w w' e a b (csL xs ys) 0) ∨ (sclB a b (csL xs ys) = false ∧ GivesS w w' e 0 0 [] 4))) ∨ (¬ AllC xs ys ∧ GivesS w w' e 0 0 [] 3)) → GivesS w w' e a b (csL xs ys) 0 := fun h =>
          h.elim (fun h => h.2.elim (fun h => h.2) (fun h => by rw [hsc] at h; cases h.1)) (fun h => absurd hok h.1)
        exact ⟨a, b, csL xs ys, 0, by rw [csL_len h3]; exact hn, fun A B c d w X Y => (sCS_4 a b A B c d xs ys w X Y h1 h2 (hid h3)).mono fun e w' h => pick h, fun A B c d w X Y => (iCS_4 a b A B c d xs ys w X Y h1 h2 (hid h3)).mono fun e w' h => pick h⟩
      | false =>
        have pick : ∀ {w w' : World} {e : Ending}, ((AllC xs ys ∧ ((sclB a b (csL xs ys) = true ∧ GivesS w w' e a b (csL xs ys) 0) ∨ (sclB a b (csL xs ys) = false ∧ GivesS w w' e 0 0 [] 4))) ∨ (¬ AllC xs ys ∧ GivesS w w' e 0 0 [] 3)) → GivesS w w' e 0 0 [] 4 := fun h =>
          h.elim (fun h => h.2.elim (fun h => by rw [hsc] at h; cases h.1) (fun h => h.2)) (fun h => absurd hok h.1)
        exact ⟨0, 0, [], 4, by simp, fun A B c d w X Y => (sCS_4 a b A B c d xs ys w X Y h1 h2 (hid h3)).mono fun e w' h => pick h, fun A B c d w X Y => (iCS_4 a b A B c d xs ys w X Y h1 h2 (hid h3)).mono fun e w' h => pick h⟩
    · exact ⟨0, 0, [], 3, by simp, fun A B c d w X Y => (sCS_4 a b A B c d xs ys w X Y h1 h2 (hid h3)).mono fun e w' h => h.elim (fun h => absurd h.1 hok) (fun h => h.2), fun A B c d w X Y => (iCS_4 a b A B c d xs ys w X Y h1 h2 (hid h3)).mono fun e w' h => h.elim (fun h => absurd h.1 hok) (fun h => h.2)⟩
  · exact ⟨0, 0, [], 2, by simp, fun A B c d w X Y => (sCS_2 a b A B c d xs ys w X Y hn hm h1 h2 h3).mono fun e w' h => gives0 h, fun A B c d w X Y => (iCS_2 a b A B c d xs ys w X Y hn hm h1 h2 h3).mono fun e w' h => gives0 h⟩
end Go.Proofs.Ytfpcbgfcachlgaa
