/- WALKS: MeanDifference, of the program and of the reference. -/
import Derived.Test.YtmjcnagniphkeaaPc
namespace Go.Proofs.Ytmjcnagniphkeaa
open Go.RowKit Go.Sort

/-! what is calculated of readings that are checked: a fraction -/
set_option maxRecDepth 20000 in
set_option maxHeartbeats 400000 in
theorem cR_F (F : Nat) (cap : Array Value) (A : Option Addr) (n c : Nat) (P Q : Int) (w : World) (k1 k2 : Nat) (T1 T2 : TypeId) (X1 : Hid (w.heap[k1]? = some (.cells #[.func (.func F) #[] cap] T1))) (X2 : Hid (w.heap[k2]? = some (.cells #[.slice A n c] T2)))
    (hen : ∀ w, (callFunc F (#[.slice A n c] ++ cap)).run Try.prog w = .ok (.enter F (#[.slice A n c] ++ cap)) w) (hf : ∀ w', Gr w w' → Calls Try.prog F (#[.slice A n c] ++ cap) w' fun e w'' => e = .returned (fr P Q) ∧ Gr w' w'') :
    Calls Try.prog 184 #[.pointer (some ⟨k1, 0, none⟩), .pointer (some ⟨k2, 0, none⟩)] w fun e w' => e = .returned (fr P Q) ∧ Gr w w' := by
  have HF := hid hf; clear hf
  go_enter Try.func184, Try.ntmps184
  have _ := cells1 X1.out
  have _ := fz X1.out
  have _ := ltb X1.out
  have _ := cells1 X2.out
  have _ := fz X2.out
  have _ := ltb X2.out
  go_wp2_with fail
  refine (HF.out _ ((Gr.refl _).al _)).mono ?_
  rintro e w1 ⟨rfl, hg1⟩
  obtain ⟨x1_0, hz1, g1⟩ := alloc1 hg1
  have x1_1 := g1.keep X1.out
  have x1_2 := g1.keep X2.out
  obtain ⟨_, _⟩ := cells2 x1_0
  have _ := fz x1_0
  have _ := ltb x1_0
  have _ := cells1 x1_1
  have _ := fz x1_1
  have _ := ltb x1_1
  have _ := cells1 x1_2
  have _ := fz x1_2
  have _ := ltb x1_2
  have X1_0 := hid x1_0; clear x1_0
  have X1_1 := hid x1_1; clear x1_1
  have X1_2 := hid x1_2; clear x1_2
  have G1 := hid (g1)
  clear hg1 g1
  go_wp2
  refine bodyPost_ret (v := fr P Q) (by simp [results, Try.results184, go_sem, *]) rfl ⟨rfl, ?_⟩
  exact ((G1.out).setCell (by simp <;> omega) _).setCell (by simp <;> omega) _
set_option maxRecDepth 20000 in
set_option maxHeartbeats 400000 in
theorem ofR_F_no (F : Nat) (cap : Array Value) (A : Option Addr) (c : Nat) (xs : List Int) (w : World) (X : Hid (RdI w A xs)) (h : rdB xs = false) :
    Calls Try.prog 125 #[.slice A xs.length c, .func (.func F) #[] cap] w fun e w' => e = .returned (.tuple #[fr 0 0, .int .i64 2]) ∧ Gr w w' := by
  have H := hid h; clear h
  go_enter Try.func125, Try.ntmps125
  go_wp2_with fail
  refine (iRd_f A c xs _ (hid (X.out.keep ((((Gr.refl w).al _).al _).al _))) H.out).mono ?_
  rintro e w1 ⟨rfl, hg1⟩
  obtain ⟨x1_0, x1_1, x1_2, hz1, g1⟩ := alloc3 hg1
  have _ := cells1 x1_0
  have _ := fz x1_0
  have _ := ltb x1_0
  have _ := cells1 x1_1
  have _ := fz x1_1
  have _ := ltb x1_1
  obtain ⟨_, _⟩ := cells2 x1_2
  have _ := fz x1_2
  have _ := ltb x1_2
  have X1_0 := hid x1_0; clear x1_0
  have X1_1 := hid x1_1; clear x1_1
  have X1_2 := hid x1_2; clear x1_2
  have G1 := hid (g1)
  clear hg1 g1
  go_wp2
  refine bodyPost_ret (v := .tuple #[fr 0 0, .int .i64 2]) (by simp [results, Try.results125, go_sem, *]) rfl ⟨rfl, ?_⟩
  exact (((G1.out).setCell (by simp <;> omega) _).setCell (by simp <;> omega) _).al _
set_option maxRecDepth 20000 in
set_option maxHeartbeats 400000 in
theorem ofR_F_yes (F : Nat) (cap : Array Value) (A : Option Addr) (c : Nat) (xs : List Int) (P Q : Int) (w : World) (X : Hid (RdI w A xs)) (h : rdB xs = true)
    (hen : ∀ w, (callFunc F (#[.slice A xs.length c] ++ cap)).run Try.prog w = .ok (.enter F (#[.slice A xs.length c] ++ cap)) w) (hf : ∀ w', Gr w w' → Calls Try.prog F (#[.slice A xs.length c] ++ cap) w' fun e w'' => e = .returned (fr P Q) ∧ Gr w' w'') :
    Calls Try.prog 125 #[.slice A xs.length c, .func (.func F) #[] cap] w fun e w' => e = .returned (.tuple #[fr P Q, .int .i64 0]) ∧ Gr w w' := by
  have H := hid h; clear h
  have HT := hid fun (w1 : World) (hg1 : Gr w w1) (k1 k2 : Nat) (T1 T2 : TypeId) (X1 : Hid (w1.heap[k1]? = some (.cells #[.func (.func F) #[] cap] T1))) (X2 : Hid (w1.heap[k2]? = some (.cells #[.slice A xs.length c] T2))) =>
    told_ok_F 184 #[.pointer (some ⟨k1, 0, none⟩), .pointer (some ⟨k2, 0, none⟩)] P Q w1 (fun _ => by kernel_rfl) fun w2 hg2 => cR_F F cap A xs.length c P Q w2 k1 k2 T1 T2 (hid (hg2.keep X1.out)) (hid (hg2.keep X2.out)) hen fun w3 hg3 => hf w3 ((hg1.trans hg2).trans hg3)
  clear hen hf
  go_enter Try.func125, Try.ntmps125
  go_wp2_with fail
  refine (iRd_t A c xs _ (hid (X.out.keep ((((Gr.refl w).al _).al _).al _))) H.out).mono ?_
  rintro e w1 ⟨rfl, hg1⟩
  obtain ⟨x1_0, x1_1, x1_2, hz1, g1⟩ := alloc3 hg1
  have _ := cells1 x1_0
  have _ := fz x1_0
  have _ := ltb x1_0
  have _ := cells1 x1_1
  have _ := fz x1_1
  have _ := ltb x1_1
  obtain ⟨_, _⟩ := cells2 x1_2
  have _ := fz x1_2
  have _ := ltb x1_2
  have X1_0 := hid x1_0; clear x1_0
  have X1_1 := hid x1_1; clear x1_1
  have X1_2 := hid x1_2; clear x1_2
  have G1 := hid (g1)
  clear hg1 g1
  go_wp2_with fail
  refine (HT.out _ G1.out _ _ _ _ (hid X1_1.out) (hid X1_0.out)).mono ?_
  rintro e w2 ⟨rfl, hg2⟩
  have x2_1 := hg2.keep X1_0.out
  have x2_2 := hg2.keep X1_1.out
  have x2_3 := hg2.keep X1_2.out
  have _ := cells1 x2_1
  have _ := fz x2_1
  have _ := ltb x2_1
  have _ := cells1 x2_2
  have _ := fz x2_2
  have _ := ltb x2_2
  obtain ⟨_, _⟩ := cells2 x2_3
  have _ := fz x2_3
  have _ := ltb x2_3
  have X2_1 := hid x2_1; clear x2_1
  have X2_2 := hid x2_2; clear x2_2
  have X2_3 := hid x2_3; clear x2_3
  have G2 := hid (G1.out.trans hg2)
  clear hg2
  go_wp2
  refine bodyPost_ret (v := .tuple #[fr P Q, .int .i64 0]) (by simp [results, Try.results125, go_sem, *]) rfl ⟨rfl, ?_⟩
  exact ((G2.out).setCell (by simp <;> omega) _).setCell (by simp <;> omega) _

/-! the differences -/
def dfs (xs ys : List Int) : List Int := List.zipWith (· - ·) xs ys
theorem dfs_len {xs ys : List Int} (h : xs.length = ys.length) : (dfs xs ys).length = xs.length := by simp [dfs, h]
theorem dfs_get {xs ys : List Int} {k : Nat} {p q : Int} (h1 : xs[k]? = some p) (h2 : ys[k]? = some q) : (dfs xs ys)[k]? = some (p - q) := by
  simp [dfs, List.getElem?_zipWith, h1, h2]
theorem dfs_bd {xs ys : List Int} (h1 : xs.all okR = true) (h2 : ys.all okR = true) : ∀ x ∈ dfs xs ys, -2000000 ≤ x ∧ x ≤ 2000000 := fun x hx => by
  obtain ⟨k, hk⟩ := List.mem_iff_getElem?.1 hx
  by_cases e1 : k < xs.length
  · by_cases e2 : k < ys.length
    · have g1 := List.getElem?_eq_getElem e1
      have g2 := List.getElem?_eq_getElem e2
      rw [dfs_get g1 g2] at hk
      have b1 := okR_bd (allI_get g1 h1)
      have b2 := okR_bd (allI_get g2 h2)
      have e := Option.some.inj hk
      omega
    · have := (List.getElem?_eq_some_iff.1 hk).1
      simp [dfs] at this
      omega
  · have := (List.getElem?_eq_some_iff.1 hk).1
    simp [dfs] at this
    omega
def ydf (xs ys : List Int) (k : Nat) : List Int := (dfs xs ys).take k ++ xs.drop k
theorem ydf_zero (xs ys : List Int) : ydf xs ys 0 = xs := by simp [ydf]
theorem ydf_len {xs ys : List Int} {k : Nat} (he : xs.length = ys.length) (h : k ≤ xs.length) : (ydf xs ys k).length = xs.length := by simp [ydf, dfs_len he]; omega
theorem ydf_get {xs ys : List Int} {k : Nat} {p : Int} (he : xs.length = ys.length) (h : xs[k]? = some p) : (ydf xs ys k)[k]? = some p := by
  have hk : k < xs.length := (List.getElem?_eq_some_iff.1 h).1
  have hl : ((dfs xs ys).take k).length = k := by simp [dfs_len he]; omega
  unfold ydf
  rw [List.getElem?_append_right (by omega), hl, Nat.sub_self, List.getElem?_drop]
  simpa using h
theorem dfs_take {xs ys : List Int} {k : Nat} {p q : Int} (h1 : xs[k]? = some p) (h2 : ys[k]? = some q) : (dfs xs ys).take (k + 1) = (dfs xs ys).take k ++ [p - q] := by
  rw [List.take_add_one, dfs_get h1 h2]
  rfl
theorem ydf_set {xs ys : List Int} {k : Nat} {p q : Int} (he : xs.length = ys.length) (h1 : xs[k]? = some p) (h2 : ys[k]? = some q) : (ydf xs ys k).set k (p - q) = ydf xs ys (k + 1) := by
  have hk : k < xs.length := (List.getElem?_eq_some_iff.1 h1).1
  have hl : ((dfs xs ys).take k).length = k := by simp [dfs_len he]; omega
  unfold ydf
  rw [List.set_append_right _ _ (by omega), hl, Nat.sub_self, dfs_take h1 h2, List.drop_eq_getElem_cons hk, List.set_cons_zero]
  simp
theorem ydf_all {xs ys : List Int} (he : xs.length = ys.length) : ydf xs ys xs.length = dfs xs ys := by
  unfold ydf
  rw [List.take_of_length_le (by rw [dfs_len he]; exact Nat.le_refl _)]
  simp
theorem sumZ_app : ∀ (xs : List Int) (x : Int), sumZ (xs ++ [x]) = sumZ xs + x
  | [], x => by simp [sumZ]
  | y :: r, x => by
    have ih := sumZ_app r x
    have e : sumZ (y :: r ++ [x]) = y + sumZ (r ++ [x]) := rfl
    have e2 : sumZ (y :: r) = y + sumZ r := rfl
    rw [e, e2, ih]
    omega
theorem RdI.of_intR {w : World} {g : Nat} {T : TypeId} {ys : List Int} {rest : List Value} (h : w.heap[g]? = some (.cells (intR ys rest) T)) : RdI w (some ⟨g, 0, none⟩) ys := fun k p hk =>
  ⟨_, rfl, by rw [add_at]; exact intR_cell h hk⟩

set_option maxRecDepth 20000 in
set_option maxHeartbeats 2000000 in
theorem iMD1 (A B : Option Addr) (c cb n : Nat) (xs ys : List Int) (w : World) (kb : Nat) (T : TypeId) (X : Hid (RdI w A xs)) (Y : Hid (RdI w B ys)) (XK : Hid (w.heap[kb]? = some (.cells #[.slice B n cb] T)))
    (hx : xs.length = n) (hy : ys.length = n) (h1 : 1 ≤ n) (h2 : n ≤ 64) (hxa : xs.all okR = true) (hya : ys.all okR = true) :
    Calls Try.prog 126 #[.slice A n c, .pointer (some ⟨kb, 0, none⟩)] w fun e w' => e = .returned (fr (redP (sumZ (dfs xs ys)) n) (redQ (sumZ (dfs xs ys)) n)) ∧ Gr w w' := by
  have hl : xs.length = ys.length := by omega
  have HL := hid hl
  have HM := hid fun (w' : World) (A' : Option Addr) (c' : Nat) (Z : Hid (RdI w' A' (dfs xs ys))) => imeanI A' c' (dfs xs ys) w' Z (by rw [dfs_len hl]; omega) (by rw [dfs_len hl]; omega) (dfs_bd hxa hya)
  have HC := hid fun (w' : World) (Z : Hid (RdI w' A xs)) => iClone A c xs w' Z (by omega) (by omega)
  rw [dfs_len hl, hx] at HM
  rw [hx] at HC
  have HXA := hid hxa; have HYA := hid hya; have HX := hid hx; have HY := hid hy
  clear hl hxa hya hx hy
  have hkb := ltb XK.out
  go_enter Try.func126, Try.ntmps126
  go_wp2_with fail
  refine (HC.out _ (hid (X.out.keep ((Gr.refl w).al _)))).mono ?_
  rintro e w1 ⟨A1, c1, rfl, own1, hg1⟩
  rw [← HX.out] at own1
  obtain ⟨g, rest, rfl, hb, hg, _, _⟩ := own_open own1 (by rw [HX.out]; omega)
  obtain ⟨z0, hzz, g1⟩ := alloc1 hg1
  have hbg : w.heap.size + 1 ≤ g := by simpa using hb
  have XG := hid hg; have Z0 := hid z0; have G1 := hid g1
  clear own1 hg1 hg z0 hzz g1 hb
  go_wp2_with fail
  go_loopw [10] (fun u wr => ∃ (k : Nat), u = .int .i64 (k : Int) ∧ k ≤ n ∧ Gr w wr ∧ wr.heap[w.heap.size]? = some (.cells #[.int .i64 0, .int .i64 0] 25) ∧ wr.heap[g]? = some (.cells (intR (ydf xs ys k) rest) 2)) (fun u _ => n - (intOf u).toNat)
  case atStart => exact ⟨0, rfl, by omega, G1.out, Z0.out, by rw [ydf_zero]; exact XG.out⟩
  case round =>
    obtain ⟨k, rfl, hk, hgr, hz, hx0⟩ := hrel
    have GR := hid hgr; have X0 := hid hx0; have Z1 := hid hz
    clear hgr hx0 hz
    by_cases hlt : k < n
    · obtain ⟨p, hp⟩ : ∃ p, xs[k]? = some p := ⟨xs[k]'(by rw [HX.out]; exact hlt), List.getElem?_eq_getElem _⟩
      obtain ⟨q, hq⟩ : ∃ q, ys[k]? = some q := ⟨ys[k]'(by rw [HY.out]; exact hlt), List.getElem?_eq_getElem _⟩
      obtain ⟨_, _⟩ := okR_bd (allI_get hp HXA.out)
      obtain ⟨_, _⟩ := okR_bd (allI_get hq HYA.out)
      obtain ⟨ad, rfl, cq⟩ := (Y.out.keep GR.out) k q hq
      have CP := hid (intR_cell X0.out (ydf_get HL.out hp))
      have CQ := hid cq
      have YK := hid (GR.out.keep XK.out)
      have HS := hid (ydf_set HL.out hp hq)
      have f2 := fz X0.out
      have hgl := ltb X0.out
      have hwr : IntKind.i64.wrap (p - q) = p - q := IntWalk.i64_in _ (by omega)
      have HW := hid hwr
      clear hp hq cq hwr
      go_wp2_with fail
      refine wp_reg0 10 (by kernel_rfl) (by kernel_rfl) ?_
      apply Exists.intro
      refine ⟨fun wb hb => ?_, ?_⟩
      · have _ := hb.atA CP.out
        have _ := hb.atA CQ.out
        have _ := hb.at1 YK.out
        simp only [headOps, List.contains, List.elem, reduceIte, Bool.false_eq_true]
        repeat (first | go_big_quiet_step (first | (fail)) | quiet_step (fail))
        exact wpQuiet_nil rfl
      intro w2 hg2
      have X2 := hid (hg2.keep X0.out); have Z2 := hid (hg2.keep Z1.out); have G2 := hid (GR.out.trans hg2)
      have f3 := fz X2.out
      have c3 : w2.cell? ⟨g, k, none⟩ = some (.int .i64 p) := (hg2.cellI (a := ⟨g, k, none⟩) hgl).trans CP.out
      have hyl : k < (ydf xs ys k).length := by rw [ydf_len HL.out (by rw [HX.out]; omega), HX.out]; exact hlt
      have HYLL := hid hyl
      clear hg2 hyl f2
      go_wp2_with fail
      refine ⟨⟨k + 1, by simp, by omega, G2.out.setCell (by simp; omega) _, ?_, ?_⟩, by simp [intOf]; omega⟩
      · rw [Below.heap_setCell _ _ _ _ (by simp; omega)]
        exact Z2.out
      · have h := intR_store (p - q) X2.out HYLL.out
        rw [HS.out] at h
        exact h
    · have hke : k = n := by omega
      have hr : RdI wr (some ⟨g, 0, none⟩) (dfs xs ys) := RdI.of_intR (by
        have h := X0.out
        rw [hke, ← HX.out, ydf_all HL.out] at h
        exact h)
      have HR := hid hr
      clear hr hke X0
      have hgs := GR.out.size
      obtain ⟨_, _⟩ := cells2 Z1.out
      have _ := fz Z1.out
      have _ := ltb Z1.out
      go_wp2_with fail
      refine (HM.out _ _ _ HR).mono ?_
      rintro e w6 ⟨rfl, hg6⟩
      have x6_1 := hg6.keep Z1.out
      obtain ⟨_, _⟩ := cells2 x6_1
      have _ := fz x6_1
      have _ := ltb x6_1
      have X6_1 := hid x6_1; clear x6_1
      have G6 := hid (GR.out.trans hg6)
      clear hg6
      go_wp2
      refine bodyPost_ret (v := fr (redP (sumZ (dfs xs ys)) n) (redQ (sumZ (dfs xs ys)) n)) (by simp [results, Try.results126, go_sem, *]) rfl ⟨rfl, ?_⟩
      exact ((G6.out).setCell (by simp <;> omega) _).setCell (by simp <;> omega) _
set_option maxRecDepth 20000 in
set_option maxHeartbeats 400000 in
theorem iMD_len (A B : Option Addr) (c cb n m : Nat) (w : World) (h : n ≠ m) :
    Calls Try.prog 62 #[.slice A n c, .slice B m cb] w fun e w' => e = .returned (.tuple #[fr 0 0, .int .i64 2]) ∧ Gr w w' := by
  have hd : ((n : Int) == (m : Int)) = false := beq_eq_false_iff_ne.2 (by omega)
  have hd2 : ((n : Int) != (m : Int)) = true := bne_iff_ne.2 (by omega)
  go_enter Try.func62, Try.ntmps62
  go_wp2
  refine bodyPost_ret (v := .tuple #[fr 0 0, .int .i64 2]) (by simp [results, Try.results62, go_sem, *]) rfl ⟨rfl, ?_⟩
  exact ((Gr.refl _).al _).al _
set_option maxRecDepth 20000 in
set_option maxHeartbeats 400000 in
theorem iMD_two (A B : Option Addr) (c cb n : Nat) (ys : List Int) (w : World) (Y : Hid (RdI w B ys)) (hy : ys.length = n) (h : rdB ys = false) :
    Calls Try.prog 62 #[.slice A n c, .slice B n cb] w fun e w' => e = .returned (.tuple #[fr 0 0, .int .i64 2]) ∧ Gr w w' := by
  have HR := hid fun (w' : World) (Z : Hid (RdI w' B ys)) => iRd_f B cb ys w' Z h
  rw [hy] at HR
  clear h hy
  go_enter Try.func62, Try.ntmps62
  go_wp2_with fail
  refine (HR.out _ (hid (Y.out.keep (((Gr.refl w).al _).al _)))).mono ?_
  rintro e w1 ⟨rfl, hg1⟩
  obtain ⟨x1_0, x1_1, hz1, g1⟩ := alloc2 hg1
  have _ := cells1 x1_0
  have _ := fz x1_0
  have _ := ltb x1_0
  obtain ⟨_, _⟩ := cells2 x1_1
  have _ := fz x1_1
  have _ := ltb x1_1
  have X1_0 := hid x1_0; clear x1_0
  have X1_1 := hid x1_1; clear x1_1
  have G1 := hid (g1)
  clear hg1 g1
  go_wp2
  refine bodyPost_ret (v := .tuple #[fr 0 0, .int .i64 2]) (by simp [results, Try.results62, go_sem, *]) rfl ⟨rfl, ?_⟩
  exact ((G1.out).setCell (by simp <;> omega) _).setCell (by simp <;> omega) _
set_option maxRecDepth 20000 in
set_option maxHeartbeats 400000 in
theorem iMD_to (A B : Option Addr) (c cb n : Nat) (ys : List Int) (P Q C : Int) (w : World) (Y : Hid (RdI w B ys)) (hy : ys.length = n) (h : rdB ys = true)
    (ho : ∀ (w' : World) (kb : Nat) (T : TypeId), Gr w w' → Hid (w'.heap[kb]? = some (.cells #[.slice B n cb] T)) → Calls Try.prog 125 #[.slice A n c, .func (.func 126) #[] #[.pointer (some ⟨kb, 0, none⟩)]] w' fun e w'' => e = .returned (.tuple #[fr P Q, .int .i64 C]) ∧ Gr w' w'') :
    Calls Try.prog 62 #[.slice A n c, .slice B n cb] w fun e w' => e = .returned (.tuple #[fr P Q, .int .i64 C]) ∧ Gr w w' := by
  have HR := hid fun (w' : World) (Z : Hid (RdI w' B ys)) => iRd_t B cb ys w' Z h
  rw [hy] at HR
  have HO := hid ho
  clear h hy ho
  go_enter Try.func62, Try.ntmps62
  go_wp2_with fail
  refine (HR.out _ (hid (Y.out.keep (((Gr.refl w).al _).al _)))).mono ?_
  rintro e w1 ⟨rfl, hg1⟩
  obtain ⟨x1_0, x1_1, hz1, g1⟩ := alloc2 hg1
  have _ := cells1 x1_0
  have _ := fz x1_0
  have _ := ltb x1_0
  obtain ⟨_, _⟩ := cells2 x1_1
  have _ := fz x1_1
  have _ := ltb x1_1
  have X1_0 := hid x1_0; clear x1_0
  have X1_1 := hid x1_1; clear x1_1
  have G1 := hid (g1)
  clear hg1 g1
  go_wp2_with fail
  refine (HO.out _ _ _ G1.out (hid X1_0.out)).mono ?_
  rintro e w2 ⟨rfl, hg2⟩
  have x2_1 := hg2.keep X1_0.out
  have x2_2 := hg2.keep X1_1.out
  have _ := cells1 x2_1
  have _ := fz x2_1
  have _ := ltb x2_1
  obtain ⟨_, _⟩ := cells2 x2_2
  have _ := fz x2_2
  have _ := ltb x2_2
  have X2_1 := hid x2_1; clear x2_1
  have X2_2 := hid x2_2; clear x2_2
  have G2 := hid (G1.out.trans hg2)
  clear hg2
  go_wp2
  refine bodyPost_ret (v := .tuple #[fr P Q, .int .i64 C]) (by simp [results, Try.results62, go_sem, *]) rfl ⟨rfl, ?_⟩
  exact ((G2.out).setCell (by simp <;> omega) _).setCell (by simp <;> omega) _

/-! the reference -/
def rdC (xs : List Int) : Int := if rdB xs then 0 else 2
theorem sRead (A : Option Addr) (c : Nat) (xs : List Int) (w : World) (X : Hid (RdI w A xs)) (hn : xs.length ≤ 1048576) :
    Calls Try.prog 107 #[.slice A xs.length c] w fun e w' => e = .returned (.int .i64 (rdC xs)) ∧ Gr w w' := by
  unfold rdC
  cases h : rdB xs with
  | true => exact sReadings_yes A c xs w X h
  | false => exact sReadings_no A c xs w X hn h
set_option maxRecDepth 20000 in
set_option maxHeartbeats 400000 in
theorem sMD_no (A B : Option Addr) (c cb n m : Nat) (C1 C2 : Int) (w : World)
    (h1 : ∀ w', Gr w w' → Calls Try.prog 107 #[.slice A n c] w' fun e w'' => e = .returned (.int .i64 C1) ∧ Gr w' w'')
    (h2 : ∀ w', Gr w w' → Calls Try.prog 107 #[.slice B m cb] w' fun e w'' => e = .returned (.int .i64 C2) ∧ Gr w' w'') (h : C1 ≠ 0 ∨ C2 ≠ 0 ∨ n ≠ m) :
    Calls Try.prog 61 #[.slice A n c, .slice B m cb] w fun e w' => e = .returned (.tuple #[fr 0 0, .int .i64 2]) ∧ Gr w w' := by
  have H1 := hid h1; have H2 := hid h2
  clear h1 h2
  by_cases e1 : C1 = 0
  · subst e1
    by_cases e2 : C2 = 0
    · subst e2
      have hne : n ≠ m := by rcases h with h | h | h <;> first | exact absurd rfl h | exact h
      have hd : ((n : Int) == (m : Int)) = false := beq_eq_false_iff_ne.2 (by omega)
      have hd2 : ((n : Int) != (m : Int)) = true := bne_iff_ne.2 (by omega)
      clear h
      go_enter Try.func61, Try.ntmps61
      go_wp2_with fail
      refine (H1.out _ ((Gr.refl _).al _)).mono ?_
      rintro e w1 ⟨rfl, hg1⟩
      obtain ⟨x1_0, hz1, g1⟩ := alloc1 hg1
      obtain ⟨_, _⟩ := cells2 x1_0
      have _ := fz x1_0
      have _ := ltb x1_0
      have X1_0 := hid x1_0; clear x1_0
      have G1 := hid (g1)
      clear hg1 g1
      go_wp2_with fail
      refine (H2.out _ G1.out).mono ?_
      rintro e w2 ⟨rfl, hg2⟩
      have x2_1 := hg2.keep X1_0.out
      obtain ⟨_, _⟩ := cells2 x2_1
      have _ := fz x2_1
      have _ := ltb x2_1
      have X2_1 := hid x2_1; clear x2_1
      have G2 := hid (G1.out.trans hg2)
      clear hg2
      go_wp2
      refine bodyPost_ret (v := .tuple #[fr 0 0, .int .i64 2]) (by simp [results, Try.results61, go_sem, *]) rfl ⟨rfl, ?_⟩
      exact ((G2.out).setCell (by simp <;> omega) _).setCell (by simp <;> omega) _
    · have hd : ((C2 : Int) == 0) = false := by simpa using e2
      have hd2 : ((C2 : Int) != 0) = true := by simpa using e2
      clear h e2
      go_enter Try.func61, Try.ntmps61
      go_wp2_with fail
      refine (H1.out _ ((Gr.refl _).al _)).mono ?_
      rintro e w1 ⟨rfl, hg1⟩
      obtain ⟨x1_0, hz1, g1⟩ := alloc1 hg1
      obtain ⟨_, _⟩ := cells2 x1_0
      have _ := fz x1_0
      have _ := ltb x1_0
      have X1_0 := hid x1_0; clear x1_0
      have G1 := hid (g1)
      clear hg1 g1
      go_wp2_with fail
      refine (H2.out _ G1.out).mono ?_
      rintro e w2 ⟨rfl, hg2⟩
      have x2_1 := hg2.keep X1_0.out
      obtain ⟨_, _⟩ := cells2 x2_1
      have _ := fz x2_1
      have _ := ltb x2_1
      have X2_1 := hid x2_1; clear x2_1
      have G2 := hid (G1.out.trans hg2)
      clear hg2
      go_wp2
      refine bodyPost_ret (v := .tuple #[fr 0 0, .int .i64 2]) (by simp [results, Try.results61, go_sem, *]) rfl ⟨rfl, ?_⟩
      exact ((G2.out).setCell (by simp <;> omega) _).setCell (by simp <;> omega) _
  · have hd : ((C1 : Int) == 0) = false := by simpa using e1
    have hd2 : ((C1 : Int) != 0) = true := by simpa using e1
    clear h e1
    go_enter Try.func61, Try.ntmps61
    go_wp2_with fail
    refine (H1.out _ ((Gr.refl _).al _)).mono ?_
    rintro e w1 ⟨rfl, hg1⟩
    obtain ⟨x1_0, hz1, g1⟩ := alloc1 hg1
    obtain ⟨_, _⟩ := cells2 x1_0
    have _ := fz x1_0
    have _ := ltb x1_0
    have X1_0 := hid x1_0; clear x1_0
    have G1 := hid (g1)
    clear hg1 g1
    go_wp2_with fail
    refine (H2.out _ G1.out).mono ?_
    rintro e w2 ⟨rfl, hg2⟩
    have x2_1 := hg2.keep X1_0.out
    obtain ⟨_, _⟩ := cells2 x2_1
    have _ := fz x2_1
    have _ := ltb x2_1
    have X2_1 := hid x2_1; clear x2_1
    have G2 := hid (G1.out.trans hg2)
    clear hg2
    go_wp2
    refine bodyPost_ret (v := .tuple #[fr 0 0, .int .i64 2]) (by simp [results, Try.results61, go_sem, *]) rfl ⟨rfl, ?_⟩
    exact ((G2.out).setCell (by simp <;> omega) _).setCell (by simp <;> omega) _
set_option maxRecDepth 20000 in
set_option maxHeartbeats 2000000 in
theorem sMD_yes (A B : Option Addr) (c cb n : Nat) (xs ys : List Int) (w : World) (X : Hid (RdI w A xs)) (Y : Hid (RdI w B ys)) (hx : xs.length = n) (hy : ys.length = n) (hxr : rdB xs = true) (hyr : rdB ys = true) :
    Calls Try.prog 61 #[.slice A n c, .slice B n cb] w fun e w' => e = .returned (.tuple #[fr (redP (sumZ (dfs xs ys)) n) (redQ (sumZ (dfs xs ys)) n), .int .i64 0]) ∧ Gr w w' := by
  obtain ⟨h1, h2, hxa⟩ := rd_parts hxr
  obtain ⟨_, _, hya⟩ := rd_parts hyr
  have hl : xs.length = ys.length := by omega
  have R1 := hid fun (w' : World) (Z : Hid (RdI w' A xs)) => sReadings_yes A c xs w' Z hxr
  have R2 := hid fun (w' : World) (Z : Hid (RdI w' B ys)) => sReadings_yes B cb ys w' Z hyr
  have hbd := dfs_bd hxa hya
  have bd := sumZ_bd (dfs xs ys) hbd
  rw [dfs_len hl] at bd
  have HR : Hid (∀ w, Calls Try.prog 123 #[.int .i64 (sumZ (dfs xs ys)), .int .i64 (xs.length : Int)] w fun e w' => e = .returned (.tuple #[fr (redP (sumZ (dfs xs ys)) xs.length) (redQ (sumZ (dfs xs ys)) xs.length), .int .i64 0]) ∧ Gr w w') := hid fun w => by
    have h := sred_any (sumZ (dfs xs ys)) (xs.length : Int) w (by omega) (by omega) (by omega) (by omega) (by omega)
    have hk := ok_red (p := sumZ (dfs xs ys)) (q := (xs.length : Int)) (by omega) (by omega) (by omega) (by omega)
    unfold rP rQ rC at h
    rw [hk] at h
    simpa using h
  have hpb : ∀ k, -128000000 ≤ sumZ ((dfs xs ys).take k) ∧ sumZ ((dfs xs ys).take k) ≤ 128000000 := fun k => by
    have b := sumZ_bd ((dfs xs ys).take k) fun x hx => hbd x (List.mem_of_mem_take hx)
    have l : ((dfs xs ys).take k).length ≤ 64 := by rw [List.length_take, dfs_len hl]; omega
    omega
  rw [hx] at R1 HR h1 h2
  rw [hy] at R2
  have hdl := dfs_len hl
  rw [hx] at hdl
  have HPB := hid hpb; have HDL := hid hdl; have HL := hid hl; have HXA := hid hxa; have HYA := hid hya; have HX := hid hx; have HY := hid hy
  clear hl hxa hya hx hy hpb bd hbd hxr hyr hdl
  go_enter Try.func61, Try.ntmps61
  go_wp2_with fail
  refine (R1.out _ (hid (X.out.keep ((Gr.refl _).al _)))).mono ?_
  rintro e w1 ⟨rfl, hg1⟩
  obtain ⟨x1_0, hz1, g1⟩ := alloc1 hg1
  obtain ⟨_, _⟩ := cells2 x1_0
  have _ := fz x1_0
  have _ := ltb x1_0
  have X1_0 := hid x1_0; clear x1_0
  have G1 := hid (g1)
  clear hg1 g1
  go_wp2_with fail
  refine (R2.out _ (hid (Y.out.keep G1.out))).mono ?_
  rintro e w2 ⟨rfl, hg2⟩
  have x2_1 := hg2.keep X1_0.out
  obtain ⟨_, _⟩ := cells2 x2_1
  have _ := fz x2_1
  have _ := ltb x2_1
  have X2_1 := hid x2_1; clear x2_1
  have G2 := hid (G1.out.trans hg2)
  clear hg2
  go_wp2_with fail
  go_loopw [8, 9] (fun s u wr => ∃ (k : Nat), u = .int .i64 (k : Int) ∧ s = .int .i64 (sumZ ((dfs xs ys).take k)) ∧ k ≤ n ∧ Gr w2 wr) (fun _ u _ => n - (intOf u).toNat)
  case atStart => exact ⟨0, rfl, by simp [sumZ], by omega, Gr.refl _⟩
  case round =>
    obtain ⟨k, rfl, rfl, hk, hgr⟩ := hrel
    have GR := hid hgr
    clear hgr
    by_cases hlt : k < n
    · obtain ⟨p, hp⟩ : ∃ p, xs[k]? = some p := ⟨xs[k]'(by rw [HX.out]; exact hlt), List.getElem?_eq_getElem _⟩
      obtain ⟨q, hq⟩ : ∃ q, ys[k]? = some q := ⟨ys[k]'(by rw [HY.out]; exact hlt), List.getElem?_eq_getElem _⟩
      obtain ⟨_, _⟩ := okR_bd (allI_get hp HXA.out)
      obtain ⟨_, _⟩ := okR_bd (allI_get hq HYA.out)
      obtain ⟨ad, rfl, cp⟩ := (X.out.keep (G2.out.trans GR.out)) k p hp
      obtain ⟨ad', rfl, cq⟩ := (Y.out.keep (G2.out.trans GR.out)) k q hq
      have CP := hid cp; have CQ := hid cq
      obtain ⟨_, _⟩ := HPB.out k
      have hst : sumZ ((dfs xs ys).take (k + 1)) = sumZ ((dfs xs ys).take k) + (p - q) := by rw [dfs_take hp hq, sumZ_app]
      have HS := hid hst
      obtain ⟨s, hs⟩ : ∃ s, sumZ ((dfs xs ys).take k) = s := ⟨_, rfl⟩
      rw [hs] at HS
      have b1 : -128000000 ≤ s := by omega
      have b2 : s ≤ 128000000 := by omega
      rw [hs]
      have hw1 : IntKind.i64.wrap (p - q) = p - q := IntWalk.i64_in _ (by omega)
      have hw2 : IntKind.i64.wrap (s + (p - q)) = s + (p - q) := IntWalk.i64_in _ (by omega)
      clear hp hq cp cq hst hs
      go_wp2_with fail
      refine wp_reg0 11 (by kernel_rfl) (by kernel_rfl) ?_
      apply Exists.intro
      refine ⟨fun wb hb => ?_, ?_⟩
      · have _ := hb.atA CP.out
        have _ := hb.atA CQ.out
        simp only [headOps, List.contains, List.elem, reduceIte, Bool.false_eq_true]
        repeat (first | go_big_quiet_step (first | (fail)) | quiet_step (fail))
        exact wpQuiet_nil rfl
      intro w3 hg3
      have G3 := hid (GR.out.trans hg3)
      clear hg3
      go_wp2_with fail
      exact ⟨⟨k + 1, by simp, by rw [HS.out], by omega, G3.out⟩, by simp [intOf]; omega⟩
    · have hke : (dfs xs ys).take k = dfs xs ys := List.take_of_length_le (by rw [HDL.out]; omega)
      rw [hke]
      have Z1 := hid (GR.out.keep X2_1.out)
      have GG := hid (G2.out.trans GR.out)
      have hgs := GG.out.size
      clear hke
      obtain ⟨_, _⟩ := cells2 Z1.out
      have _ := fz Z1.out
      have _ := ltb Z1.out
      go_wp2_with fail
      refine (HR.out _).mono ?_
      rintro e w6 ⟨rfl, hg6⟩
      have x6_1 := hg6.keep Z1.out
      obtain ⟨_, _⟩ := cells2 x6_1
      have _ := fz x6_1
      have _ := ltb x6_1
      have X6_1 := hid x6_1; clear x6_1
      have G6 := hid (GG.out.trans hg6)
      clear hg6
      go_wp2
      refine bodyPost_ret (v := .tuple #[fr (redP (sumZ (dfs xs ys)) n) (redQ (sumZ (dfs xs ys)) n), .int .i64 0]) (by simp [results, Try.results61, go_sem, *]) rfl ⟨rfl, ?_⟩
      exact ((G6.out).setCell (by simp <;> omega) _).setCell (by simp <;> omega) _
theorem ofR_F_no' (F : Nat) (cap : Array Value) (A : Option Addr) (c n : Nat) (xs : List Int) (w : World) (X : Hid (RdI w A xs)) (hx : xs.length = n) (h : rdB xs = false) :
    Calls Try.prog 125 #[.slice A n c, .func (.func F) #[] cap] w fun e w' => e = .returned (.tuple #[fr 0 0, .int .i64 2]) ∧ Gr w w' := by
  have := ofR_F_no F cap A c xs w X h
  rwa [hx] at this
theorem ofR_F_yes' (F : Nat) (cap : Array Value) (A : Option Addr) (c n : Nat) (xs : List Int) (P Q : Int) (w : World) (X : Hid (RdI w A xs)) (hx : xs.length = n) (h : rdB xs = true)
    (hen : ∀ w, (callFunc F (#[.slice A n c] ++ cap)).run Try.prog w = .ok (.enter F (#[.slice A n c] ++ cap)) w) (hf : ∀ w', Gr w w' → Calls Try.prog F (#[.slice A n c] ++ cap) w' fun e w'' => e = .returned (fr P Q) ∧ Gr w' w'') :
    Calls Try.prog 125 #[.slice A n c, .func (.func F) #[] cap] w fun e w' => e = .returned (.tuple #[fr P Q, .int .i64 0]) ∧ Gr w w' := by
  subst hx
  exact ofR_F_yes F cap A c xs P Q w X h hen hf
theorem sRead' (A : Option Addr) (c n : Nat) (xs : List Int) (w : World) (X : Hid (RdI w A xs)) (hx : xs.length = n) (hn : n ≤ 1048576) :
    Calls Try.prog 107 #[.slice A n c] w fun e w' => e = .returned (.int .i64 (rdC xs)) ∧ Gr w w' := by
  subst hx
  exact sRead A c xs w X hn
theorem sMD_bad (n m : Nat) (xs ys : List Int) (hx : xs.length = n) (hy : ys.length = m) (hn : n ≤ 1048576) (hm : m ≤ 1048576) (h : rdC xs ≠ 0 ∨ rdC ys ≠ 0 ∨ n ≠ m)
    (A : Option Addr) (c : Nat) (B : Option Addr) (cb : Nat) (w : World) (X : Hid (RdI w A xs)) (Y : Hid (RdI w B ys)) :
    Calls Try.prog 61 #[.slice A n c, .slice B m cb] w fun e w' => e = .returned (.tuple #[fr 0 0, .int .i64 2]) ∧ Gr w w' :=
  sMD_no A B c cb n m (rdC xs) (rdC ys) w (fun w' hg => sRead' A c n xs w' (hid (X.out.keep hg)) hx hn) (fun w' hg => sRead' B cb m ys w' (hid (Y.out.keep hg)) hy hm) h
def MDs (xs ys : List Int) (n m : Nat) (P Q C : Int) : Prop :=
    (∀ (A : Option Addr) (c : Nat) (B : Option Addr) (cb : Nat) (w : World), Hid (RdI w A xs) → Hid (RdI w B ys) → Calls Try.prog 61 #[.slice A n c, .slice B m cb] w fun e w' => e = .returned (.tuple #[fr P Q, .int .i64 C]) ∧ Gr w w') ∧
    (∀ (A : Option Addr) (c : Nat) (B : Option Addr) (cb : Nat) (w : World), Hid (RdI w A xs) → Hid (RdI w B ys) → Calls Try.prog 62 #[.slice A n c, .slice B m cb] w fun e w' => e = .returned (.tuple #[fr P Q, .int .i64 C]) ∧ Gr w w')
theorem bothMD_n (xs ys : List Int) (n : Nat) (hx : xs.length = n) (hy : ys.length = n) (hn : n ≤ 1048576) : ∃ P Q C : Int, MDs xs ys n n P Q C := by
  cases h2 : rdB ys with
  | false =>
    have hc : rdC ys ≠ 0 := by unfold rdC; rw [h2]; decide
    exact ⟨0, 0, 2, sMD_bad n n xs ys hx hy hn hn (.inr (.inl hc)), fun A c B cb w X Y => iMD_two A B c cb n ys w Y hy h2⟩
  | true =>
    cases h1 : rdB xs with
    | false =>
      have hc : rdC xs ≠ 0 := by unfold rdC; rw [h1]; decide
      exact ⟨0, 0, 2, sMD_bad n n xs ys hx hy hn hn (.inl hc), fun A c B cb w X Y => iMD_to A B c cb n ys 0 0 2 w Y hy h2 fun w' kb T hg _ => ofR_F_no' 126 _ A c n xs w' (hid (X.out.keep hg)) hx h1⟩
    | true =>
      obtain ⟨n1, n2, hxa⟩ := rd_parts h1
      obtain ⟨_, _, hya⟩ := rd_parts h2
      refine ⟨_, _, 0, fun A c B cb w X Y => sMD_yes A B c cb n xs ys w X Y hx hy h1 h2, fun A c B cb w X Y => iMD_to A B c cb n ys _ _ 0 w Y hy h2 fun w' kb T hg XK => ofR_F_yes' 126 _ A c n xs _ _ w' (hid (X.out.keep hg)) hx h1 (fun _ => by kernel_rfl) fun w2 hg2 => ?_⟩
      exact iMD1 A B c cb n xs ys w2 kb T (hid (X.out.keep (hg.trans hg2))) (hid (Y.out.keep (hg.trans hg2))) (hid (hg2.keep XK.out)) hx hy (by omega) (by omega) hxa hya
theorem bothMeanDifference (xs ys : List Int) (hn : xs.length ≤ 1048576) (hm : ys.length ≤ 1048576) : ∃ P Q C : Int, MDs xs ys xs.length ys.length P Q C := by
  by_cases hl : xs.length = ys.length
  · have h := bothMD_n xs ys ys.length hl rfl hm
    rw [hl]
    exact h
  · exact ⟨0, 0, 2, sMD_bad xs.length ys.length xs ys rfl rfl hn hm (.inr (.inr hl)), fun A c B cb w _ _ => iMD_len A B c cb _ _ w hl⟩
end Go.Proofs.Ytmjcnagniphkeaa
