/- WALKS: MeanDifference, of the program and of the reference. -/
import Derived.Test.YtfcoigdmnmgohaaPc
namespace Go.Proofs.Ytfcoigdmnmgohaa
open Go.RowKit Go.Sort

/-! what is calculated of readings that are checked: a fraction -/
set_option maxRecDepth 20000 in
set_option maxHeartbeats 400000 in
theorem cR_F (F : Nat) (cap : Array Value) (A : Option Addr) (n c : Nat) (P Q : Int) (w : World) (k1 k2 : Nat) (T1 T2 : TypeId) (X1 : Hid (w.heap[k1]? = some (.cells #[.func (.func F) #[] cap] T1))) (X2 : Hid (w.heap[k2]? = some (.cells #[.slice A n c] T2)))
    (hen : ∀ w, (callFunc F (#[.slice A n c] ++ cap)).run Try.prog w = .ok (.enter F (#[.slice A n c] ++ cap)) w) (hf : ∀ w', Gr w w' → Calls Try.prog F (#[.slice A n c] ++ cap) w' fun e w'' => e = .returned (fr P Q) ∧ Gr w' w'') :
    Calls Try.prog 149 #[.pointer (some ⟨k1, 0, none⟩), .pointer (some ⟨k2, 0, none⟩)] w fun e w' => e = .returned (fr P Q) ∧ Gr w w' := by
  have HF := hid hf; clear hf
  go_enter Try.func149, Try.ntmps149
  have _ := cells1 X1.out
  have _ := fz X1.out
  have _ := ltb X1.out
  have _ := cells1 X2.out
  have _ := fz X2.out
  have _ := ltb X2.out
  go_wp2_with fail
  refine (HF.out _ ((Gr.refl _).al _)).mono ?_
  rintro e w1 ⟨rfl, hg1⟩
  obtain ⟨x1_0, hz1, g1⟩ := alloc1 hg1
  have x1_1 := g1.keep X1.out
  have x1_2 := g1.keep X2.out
  obtain ⟨_, _⟩ := cells2 x1_0
  have _ := fz x1_0
  have _ := ltb x1_0
  have _ := cells1 x1_1
  have _ := fz x1_1
  have _ := ltb x1_1
  have _ := cells1 x1_2
  have _ := fz x1_2
  have _ := ltb x1_2
  have X1_0 := hid x1_0; clear x1_0
  have X1_1 := hid x1_1; clear x1_1
  have X1_2 := hid x1_2; clear x1_2
  have G1 := hid (g1)
  clear hg1 g1
  go_wp2
  refine bodyPost_ret (v := fr P Q) (by simp [results, Try.results149, go_sem, *]) rfl ⟨rfl, ?_⟩
  exact ((G1.out).setCell (by simp <;> omega) _).setCell (by simp <;> omega) _
set_option maxRecDepth 20000 in
set_option maxHeartbeats 400000 in
theorem ofR_F_no (F : Nat) (cap : Array Value) (A : Option Addr) (c : Nat) (xs : List Int) (w : World) (X : Hid (RdI w A xs)) (h : rdB xs = false) :
    Calls Try.prog 94 #[.slice A xs.length c, .func (.func F) #[] cap] w fun e w' => e = .returned (.tuple #[fr 0 0, .int .i64 2]) ∧ Gr w w' := by
  have H := hid h; clear h
  go_enter Try.func94, Try.ntmps94
  go_wp2_with fail
  refine (iRd_f A c xs _ (hid (X.out.keep ((((Gr.refl w).al _).al _).al _))) H.out).mono ?_
  rintro e w1 ⟨rfl, hg1⟩
  obtain ⟨x1_0, x1_1, x1_2, hz1, g1⟩ := alloc3 hg1
  have _ := cells1 x1_0
  have _ := fz x1_0
  have _ := ltb x1_0
  have _ := cells1 x1_1
  have _ := fz x1_1
  have _ := ltb x1_1
  obtain ⟨_, _⟩ := cells2 x1_2
  have _ := fz x1_2
  have _ := ltb x1_2
  have X1_0 := hid x1_0; clear x1_0
  have X1_1 := hid x1_1; clear x1_1
  have X1_2 := hid x1_2; clear x1_2
  have G1 := hid (g1)
  clear hg1 g1
  go_wp2
  refine bodyPost_ret (v := .tuple #[fr 0 0, .int .i64 2]) (by simp [results, Try.results94, go_sem, *]) rfl ⟨rfl, ?_⟩
  exact (((G1.out).setCell (by simp <;> omega) _).setCell (by simp <;> omega) _).al _
set_option maxRecDepth 20000 in
set_option maxHeartbeats 400000 in
theorem ofR_F_yes (F : Nat) (cap : Array Value) (A : Option Addr) (c : Nat) (xs : List Int) (P Q : Int) (w : World) (X : Hid (RdI w A xs)) (h : rdB xs = true)
    (hen : ∀ w, (callFunc F (#[.slice A xs.length c] ++ cap)).run Try.prog w = .ok (.enter F (#[.slice A xs.length c] ++ cap)) w) (hf : ∀ w', Gr w w' → Calls Try.prog F (#[.slice A xs.length c] ++ cap) w' fun e w'' => e = .returned (fr P Q) ∧ Gr w' w'') :
    Calls Try.prog 94 #[.slice A xs.length c, .func (.func F) #[] cap] w fun e w' => e = .returned (.tuple #[fr P Q, .int .i64 0]) ∧ Gr w w' := by
  have H := hid h; clear h
  have HT := hid fun (w1 : World) (hg1 : Gr w w1) (k1 k2 : Nat) (T1 T2 : TypeId) (X1 : Hid (w1.heap[k1]? = some (.cells #[.func (.func F) #[] cap] T1))) (X2 : Hid (w1.heap[k2]? = some (.cells #[.slice A xs.length c] T2))) =>
    told_ok_F 149 #[.pointer (some ⟨k1, 0, none⟩), .pointer (some ⟨k2, 0, none⟩)] P Q w1 (fun _ => by kernel_rfl) fun w2 hg2 => cR_F F cap A xs.length c P Q w2 k1 k2 T1 T2 (hid (hg2.keep X1.out)) (hid (hg2.keep X2.out)) hen fun w3 hg3 => hf w3 ((hg1.trans hg2).trans hg3)
  clear hen hf
  go_enter Try.func94, Try.ntmps94
  go_wp2_with fail
  refine (iRd_t A c xs _ (hid (X.out.keep ((((Gr.refl w).al _).al _).al _))) H.out).mono ?_
  rintro e w1 ⟨rfl, hg1⟩
  obtain ⟨x1_0, x1_1, x1_2, hz1, g1⟩ := alloc3 hg1
  have _ := cells1 x1_0
  have _ := fz x1_0
  have _ := ltb x1_0
  have _ := cells1 x1_1
  have _ := fz x1_1
  have _ := ltb x1_1
  obtain ⟨_, _⟩ := cells2 x1_2
  have _ := fz x1_2
  have _ := ltb x1_2
  have X1_0 := hid x1_0; clear x1_0
  have X1_1 := hid x1_1; clear x1_1
  have X1_2 := hid x1_2; clear x1_2
  have G1 := hid (g1)
  clear hg1 g1
  go_wp2_with fail
  refine (HT.out _ G1.out _ _ _ _ (hid X1_1.out) (hid X1_0.out)).mono ?_
  rintro e w2 ⟨rfl, hg2⟩
  have x2_1 := hg2.keep X1_0.out
  have x2_2 := hg2.keep X1_1.out
  have x2_3 := hg2.keep X1_2.out
  have _ := cells1 x2_1
  have _ := fz x2_1
  have _ := ltb x2_1
  have _ := cells1 x2_2
  have _ := fz x2_2
  have _ := ltb x2_2
  obtain ⟨_, _⟩ := cells2 x2_3
  have _ := fz x2_3
  have _ := ltb x2_3
  have X2_1 := hid x2_1; clear x2_1
  have X2_2 := hid x2_2; clear x2_2
  have X2_3 := hid x2_3; clear x2_3
  have G2 := hid (G1.out.trans hg2)
  clear hg2
  go_wp2
  refine bodyPost_ret (v := .tuple #[fr P Q, .int .i64 0]) (by simp [results, Try.results94, go_sem, *]) rfl ⟨rfl, ?_⟩
  exact ((G2.out).setCell (by simp <;> omega) _).setCell (by simp <;> omega) _

/-! the differences -/
def dfs (xs ys : List Int) : List Int := List.zipWith (· - ·) xs ys
theorem dfs_len {xs ys : List Int} (h : xs.length = ys.length) : (dfs xs ys).length = xs.length := by simp [dfs, h]
theorem dfs_get {xs ys : List Int} {k : Nat} {p q : Int} (h1 : xs[k]? = some p) (h2 : ys[k]? = some q) : (dfs xs ys)[k]? = some (p - q) := by
  simp [dfs, List.getElem?_zipWith, h1, h2]
theorem dfs_bd {xs ys : List Int} (h1 : xs.all okR = true) (h2 : ys.all okR = true) : ∀ x ∈ dfs xs ys, -2000000 ≤ x ∧ x ≤ 2000000 := fun x hx => by
  obtain ⟨k, hk⟩ := List.mem_iff_getElem?.1 hx
  by_cases e1 : k < xs.length
  · by_cases e2 : k < ys.length
    · have g1 := List.getElem?_eq_getElem e1
      have g2 := List.getElem?_eq_getElem e2
      rw [dfs_get g1 g2] at hk
      have b1 := okR_bd (allI_get g1 h1)
      have b2 := okR_bd (allI_get g2 h2)
      have e := Option.some.inj hk
      omega
    · have := (List.getElem?_eq_some_iff.1 hk).1
      simp [dfs] at this
      omega
  · have := (List.getElem?_eq_some_iff.1 hk).1
    simp [dfs] at this
    omega
def ydf (xs ys : List Int) (k : Nat) : List Int := (dfs xs ys).take k ++ xs.drop k
theorem ydf_zero (xs ys : List Int) : ydf xs ys 0 = xs := by simp [ydf]
theorem ydf_len {xs ys : List Int} {k : Nat} (he : xs.length = ys.length) (h : k ≤ xs.length) : (ydf xs ys k).length = xs.length := by simp [ydf, dfs_len he]; omega
theorem ydf_get {xs ys : List Int} {k : Nat} {p : Int} (he : xs.length = ys.length) (h : xs[k]? = some p) : (ydf xs ys k)[k]? = some p := by
  have hk : k < xs.length := (List.getElem?_eq_some_iff.1 h).1
  have hl : ((dfs xs ys).take k).length = k := by simp [dfs_len he]; omega
  unfold ydf
  rw [List.getElem?_append_right (by omega), hl, Nat.sub_self, List.getElem?_drop]
  simpa using h
theorem dfs_take {xs ys : List Int} {k : Nat} {p q : Int} (h1 : xs[k]? = some p) (h2 : ys[k]? = some q) : (dfs xs ys).take (k + 1) = (dfs xs ys).take k ++ [p - q] := by
  rw [List.take_add_one, dfs_get h1 h2]
  rfl
theorem ydf_set {xs ys : List Int} {k : Nat} {p q : Int} (he : xs.length = ys.length) (h1 : xs[k]? = some p) (h2 : ys[k]? = some q) : (ydf xs ys k).set k (p - q) = ydf xs ys (k + 1) := by
  have hk : k < xs.length := (List.getElem?_eq_some_iff.1 h1).1
  have hl : ((dfs xs ys).take k).length = k := by simp [dfs_len he]; omega
  unfold ydf
  rw [List.set_append_right _ _ (by omega), hl, Nat.sub_self, dfs_take h1 h2, List.drop_eq_getElem_cons hk, List.set_cons_zero]
  simp
theorem ydf_all {xs ys : List Int} (he : xs.length = ys.length) : ydf xs ys xs.length = dfs xs ys := by
  unfold ydf
  rw [List.take_of_length_le (by rw [dfs_len he]; exact Nat.le_refl _)]
  simp
theorem sumZ_app : ∀ (xs : List Int) (x : Int), sumZ (xs ++ [x]) = sumZ xs + x
  | [], x => by simp [sumZ]
  | y :: r, x => by
    have ih := sumZ_app r x
    have e : sumZ (y :: r ++ [x]) = y + sumZ (r ++ [x]) := rfl
    have e2 : sumZ (y :: r) = y + sumZ r := rfl
    rw [e, e2, ih]
    omega
theorem RdI.of_intR {w : World} {g : Nat} {T : TypeId} {ys : List Int} {rest : List Value} (h : w.heap[g]? = some (.cells (intR ys rest) T)) : RdI w (some ⟨g, 0, none⟩) ys := fun k p hk =>
  ⟨_, rfl, by rw [add_at]; exact intR_cell h hk⟩

/-! the reference -/
def rdC (xs : List Int) : Int := if rdB xs then 0 else 2
theorem sRead (A : Option Addr) (c : Nat) (xs : List Int) (w : World) (X : Hid (RdI w A xs)) (hn : xs.length ≤ 1048576) :
    Calls Try.prog 91 #[.slice A xs.length c] w fun e w' => e = .returned (.int .i64 (rdC xs)) ∧ Gr w w' := by
  unfold rdC
  cases h : rdB xs with
  | true => exact sReadings_yes A c xs w X h
  | false => exact sReadings_no A c xs w X hn h
theorem ofR_F_no' (F : Nat) (cap : Array Value) (A : Option Addr) (c n : Nat) (xs : List Int) (w : World) (X : Hid (RdI w A xs)) (hx : xs.length = n) (h : rdB xs = false) :
    Calls Try.prog 94 #[.slice A n c, .func (.func F) #[] cap] w fun e w' => e = .returned (.tuple #[fr 0 0, .int .i64 2]) ∧ Gr w w' := by
  have := ofR_F_no F cap A c xs w X h
  rwa [hx] at this
theorem ofR_F_yes' (F : Nat) (cap : Array Value) (A : Option Addr) (c n : Nat) (xs : List Int) (P Q : Int) (w : World) (X : Hid (RdI w A xs)) (hx : xs.length = n) (h : rdB xs = true)
    (hen : ∀ w, (callFunc F (#[.slice A n c] ++ cap)).run Try.prog w = .ok (.enter F (#[.slice A n c] ++ cap)) w) (hf : ∀ w', Gr w w' → Calls Try.prog F (#[.slice A n c] ++ cap) w' fun e w'' => e = .returned (fr P Q) ∧ Gr w' w'') :
    Calls Try.prog 94 #[.slice A n c, .func (.func F) #[] cap] w fun e w' => e = .returned (.tuple #[fr P Q, .int .i64 0]) ∧ Gr w w' := by
  subst hx
  exact ofR_F_yes F cap A c xs P Q w X h hen hf
theorem sRead' (A : Option Addr) (c n : Nat) (xs : List Int) (w : World) (X : Hid (RdI w A xs)) (hx : xs.length = n) (hn : n ≤ 1048576) :
    Calls Try.prog 91 #[.slice A n c] w fun e w' => e = .returned (.int .i64 (rdC xs)) ∧ Gr w w' := by
  subst hx
  exact sRead A c xs w X hn
end Go.Proofs.Ytfcoigdmnmgohaa
