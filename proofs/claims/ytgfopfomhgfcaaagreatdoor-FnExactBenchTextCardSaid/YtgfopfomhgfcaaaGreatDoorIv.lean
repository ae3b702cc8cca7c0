/- WALKS: closings that are shared out, of the reference and of the program. -/
import Derived.Test.YtgfopfomhgfcaaaGreatDoorJ
import Derived.Test.YtgfopfomhgfcaaaGreatDoorReg
namespace Go.Proofs.YtgfopfomhgfcaaaGreatDoor
open Go.RowKit Go.Sort

def shAt (xs : List Int) (e : Int) (k : Nat) : Int := xs.getD k 0 - (downI (((k : Int) + 1) * e) (xs.length : Int) - downI ((k : Int) * e) (xs.length : Int))
def shr (xs : List Int) : List Int := (List.range xs.length).map (fun k : Nat => shAt xs (clo xs) k)
theorem shr_len (xs : List Int) : (shr xs).length = xs.length := by simp [shr]
theorem shr_get (xs : List Int) {k : Nat} (h : k < xs.length) : (shr xs)[k]? = some (shAt xs (clo xs) k) := by simp [shr, h]
theorem shr_take (xs : List Int) {k : Nat} (h : k < xs.length) : (shr xs).take (k + 1) = (shr xs).take k ++ [shAt xs (clo xs) k] := by
  rw [List.take_add_one, shr_get xs h]
  rfl
theorem own_gr {w w' : World} {base : Nat} {e : TypeId} {size n : Nat} {v : Value} {xs : List Value} (h : w.ownsRow base e size v n xs) (hg : Gr w w') : w'.ownsRow base e size v n xs := by
  refine ⟨h.1, ?_⟩
  rcases h.2 with h0 | ⟨g, cap, cur, h1, h2, h3, h4⟩
  · exact .inl h0
  · exact .inr ⟨g, cap, cur, h1, h2, hg.keep h3, h4⟩
theorem Gr.atA {w wb : World} (h : Gr w wb) {a : Addr} {v : Value} (hc : w.cell? a = some v) : ∀ (m : Nat) (os : Array Obj), (grow (wb.drewN m) os).cell? a = some v := fun m os =>
  ((h.trans ⟨⟨m, os⟩, rfl⟩).cellI (World.block_lt_of_cell? _ _ hc)).trans hc
theorem one_news {w : World} {b : Nat} {v : Value} {T : TypeId} (h : w.heap[b]? = some (.cells #[v] T)) : ∀ (j : Nat) (u : Value), [v][j]? = some u → w.cell? ((⟨b, 0, none⟩ : Addr).add j) = some u := by
  intro j u hj
  match j with
  | 0 => simp at hj; subst hj; rw [add_at]; exact cells1 h
  | j + 1 => simp at hj
theorem own_form {w : World} {base : Nat} {e : TypeId} {size n : Nat} {v : Value} {xs : List Value} (h : w.ownsRow base e size v n xs) : ∃ A c, v = .slice A n c := by
  rcases h.2 with ⟨rfl, rfl⟩ | ⟨g, cap, cur, rfl, _⟩
  · exact ⟨none, 0, rfl⟩
  · exact ⟨_, cap, rfl⟩
theorem own_base {w : World} {base base' : Nat} {e : TypeId} {size n : Nat} {v : Value} {xs : List Value} (h : w.ownsRow base e size v n xs) (hb : base' ≤ base) : w.ownsRow base' e size v n xs := by
  refine ⟨h.1, ?_⟩
  rcases h.2 with h0 | ⟨g, cap, cur, h1, h2, h3, h4⟩
  · exact .inl h0
  · exact .inr ⟨g, cap, cur, h1, by omega, h3, h4⟩
/-- A slice of integers of the call's own, and a code. -/
def GivesI (w w' : World) (e : Ending) (ys : List Int) (C : Int) : Prop := ∃ A c, e = .returned (.tuple #[.slice A ys.length c, .int .i64 C]) ∧ w'.ownsRow w.heap.size 2 1 (.slice A ys.length c) ys.length (ys.map (.int .i64 ·)) ∧ Gr w w'
theorem sh_bd {xs : List Int} (h2 : xs.length ≤ 72) (h3 : xs.all okSec = true) {k : Nat} (hk : k < xs.length) :
    (-1000000000000000000 ≤ ((k : Int) + 1) * clo xs ∧ ((k : Int) + 1) * clo xs ≤ 1000000000000000000) ∧ (-1000000000000000000 ≤ (k : Int) * clo xs ∧ (k : Int) * clo xs ≤ 1000000000000000000) := by
  have hb := clo_bd xs xs.length h3 (Nat.le_refl _)
  rw [List.take_length] at hb
  exact ⟨mul_bd (by omega) (by omega) (by omega) (by omega), mul_bd (by omega) (by omega) (by omega) (by omega)⟩
theorem down_bd (p q : Int) (h1 : -1000000000000000000 ≤ p) (h2 : p ≤ 1000000000000000000) : -4000000000000000001 ≤ downI p q ∧ downI p q ≤ 4000000000000000000 := by
  have := tdiv_bd' p q (by omega) (by omega)
  unfold downI
  split <;> omega

/-! ShareClosing -/
/-- A row of the call's own: what it holds, and what is spare. -/
def intR (ys : List Int) (rest : List Value) : Array Value := ((ys.map (Value.int .i64 ·)) ++ rest).toArray
theorem intR_size (ys : List Int) (rest : List Value) : (intR ys rest).size = ys.length + rest.length := by simp [intR]
theorem intR_get {ys : List Int} {rest : List Value} {k : Nat} {p : Int} (h : ys[k]? = some p) : (intR ys rest)[k]? = some (.int .i64 p) := by
  have hk : k < ys.length := (List.getElem?_eq_some_iff.1 h).1
  unfold intR
  rw [List.getElem?_toArray, List.getElem?_append_left (by simpa using hk), List.getElem?_map, h]
  rfl
theorem intR_set {ys : List Int} {rest : List Value} {k : Nat} (p : Int) (h : k < ys.length) : (intR ys rest).setIfInBounds k (.int .i64 p) = intR (ys.set k p) rest := by
  unfold intR
  simp [List.map_set, h]
theorem intR_cell {w : World} {g k : Nat} {T : TypeId} {ys : List Int} {rest : List Value} {p : Int} (h : w.heap[g]? = some (.cells (intR ys rest) T)) (hk : ys[k]? = some p) : w.cell? ⟨g, k, none⟩ = some (.int .i64 p) := by
  have := intR_get (rest := rest) hk
  simp [World.cell?, h, this]
theorem intR_store {w : World} {g k : Nat} {T : TypeId} {ys : List Int} {rest : List Value} (p : Int) (h : w.heap[g]? = some (.cells (intR ys rest) T)) (hk : k < ys.length) :
    (w.setCell ⟨g, k, none⟩ (.int .i64 p)).heap[g]? = some (.cells (intR (ys.set k p) rest) T) := by
  have e1 := Joins.block_setCell (i := k) h (.int .i64 p)
  rw [intR_set p hk] at e1
  exact e1
theorem own_open {w : World} {base : Nat} {E : TypeId} {A : Option Addr} {c : Nat} {xs : List Int} (h : w.ownsRow base E 1 (.slice A xs.length c) xs.length (xs.map (Value.int .i64 ·))) (h0 : 0 < xs.length) :
    ∃ g rest, A = some ⟨g, 0, none⟩ ∧ base ≤ g ∧ w.heap[g]? = some (.cells (intR xs rest) E) ∧ c ≤ maxLen ∧ xs.length + rest.length = c := by
  rcases h.2 with ⟨hv, hn⟩ | ⟨g, cap, cur, hv, hb, hg, hnc, hcm, hcs, ht⟩
  · omega
  · injection hv with e1 e2 e3
    subst e1 e3
    rw [Nat.mul_one] at ht hcs
    refine ⟨g, cur.toList.drop xs.length, rfl, hb, ?_, hcm, ?_⟩
    · rw [hg]
      have : intR xs (cur.toList.drop xs.length) = cur := by
        unfold intR
        rw [← ht, List.take_append_drop]
      rw [this]
    · have := congrArg List.length ht
      simp at this ⊢
      omega
theorem own_close {w : World} {base g : Nat} {E : TypeId} {c : Nat} {ys : List Int} {rest : List Value} (hb : base ≤ g) (hg : w.heap[g]? = some (.cells (intR ys rest) E)) (hc : c ≤ maxLen) (hl : ys.length + rest.length = c) :
    w.ownsRow base E 1 (.slice (some ⟨g, 0, none⟩) ys.length c) ys.length (ys.map (Value.int .i64 ·)) :=
  ⟨by simp, .inr ⟨g, c, _, rfl, hb, hg, by omega, hc, by rw [intR_size]; omega, by simp [intR]⟩⟩
theorem down_zero (n e : Int) : downI (((0 : Nat) : Int) * e) n = 0 := by simp [downI]
def ysh (xs : List Int) (k : Nat) : List Int := (shr xs).take k ++ xs.drop k
theorem ysh_len {xs : List Int} {k : Nat} (h : k ≤ xs.length) : (ysh xs k).length = xs.length := by simp [ysh, shr_len]; omega
theorem ysh_get {xs : List Int} {k : Nat} {p : Int} (h : xs[k]? = some p) : (ysh xs k)[k]? = some p := by
  have hk : k < xs.length := (List.getElem?_eq_some_iff.1 h).1
  have hl : ((shr xs).take k).length = k := by simp [shr_len]; omega
  unfold ysh
  rw [List.getElem?_append_right (by omega), hl, Nat.sub_self, List.getElem?_drop]
  simpa using h
theorem ysh_set {xs : List Int} {k : Nat} (hk : k < xs.length) : (ysh xs k).set k (shAt xs (clo xs) k) = ysh xs (k + 1) := by
  have hl : ((shr xs).take k).length = k := by simp [shr_len]; omega
  unfold ysh
  rw [List.set_append_right _ _ (by omega), hl, Nat.sub_self, shr_take xs hk, List.drop_eq_getElem_cons hk, List.set_cons_zero]
  simp
end Go.Proofs.YtgfopfomhgfcaaaGreatDoor
namespace Go.Proofs.YtgfopfomhgfcaaaGreatDoor
open Go.RowKit Go.Sort

theorem own_lt {w : World} {base : Nat} {e : TypeId} {size n c : Nat} {A : Option Addr} {xs : List Value} (h : w.ownsRow base e size (.slice A n c) n xs) : ∀ ad, A = some ad → base ≤ ad.block ∧ ad.block < w.heap.size := by
  rintro ad rfl
  exact h.lt ad.block rfl
theorem Only.keepI {w w' : World} {g : Nat} (o : Only g w w') {a : Addr} {v : Value} (hc : w.cell? a = some v) (hne : a.block ≠ g) : w'.cell? a = some v := by
  have hb := World.block_lt_of_cell? _ _ hc
  have h := o.1 a.block w.heap[a.block] hne (Array.getElem?_eq_getElem hb)
  rw [← hc]
  exact World.cell?_of_block (h.trans (Array.getElem?_eq_getElem hb).symm)
theorem RdI.only {w w' : World} {g : Nat} {A : Option Addr} {xs : List Int} (h : RdI w A xs) (o : Only g w w') (hne : ∀ ad, A = some ad → ad.block ≠ g) : RdI w' A xs := fun k p hk => by
  obtain ⟨ad, e, c⟩ := h k p hk
  exact ⟨ad, e, o.keepI c (by rw [addI_block]; exact hne ad e)⟩
theorem own_only {w w' : World} {g : Nat} {base : Nat} {e : TypeId} {size n c : Nat} {A : Option Addr} {xs : List Value} (h : w.ownsRow base e size (.slice A n c) n xs) (o : Only g w w') (hne : ∀ ad, A = some ad → ad.block ≠ g) :
    w'.ownsRow base e size (.slice A n c) n xs := by
  refine ⟨h.1, ?_⟩
  rcases h.2 with h0 | ⟨g', cap, cur, h1, h2, h3, h4⟩
  · exact .inl h0
  · injection h1 with e1 e2 e3
    exact .inr ⟨g', cap, cur, by rw [e1, e3], h2, o.1 g' _ (hne _ e1) h3, h4⟩
theorem own_low {W : World} {base : Nat} {E : TypeId} {sz n : Nat} {v : Value} {xs : List Value} (h : W.ownsRow base E sz v n xs) {a : Addr} (ha : a.block < base) (y : Value) : (W.setCell a y).ownsRow base E sz v n xs := by
  refine ⟨h.1, ?_⟩
  rcases h.2 with h0 | ⟨g, cap, cur, h1, h2, h3, h4⟩
  · exact .inl h0
  · exact .inr ⟨g, cap, cur, h1, h2, (Below.heap_setCell _ _ _ _ (show g ≠ a.block by omega)).trans h3, h4⟩
end Go.Proofs.YtgfopfomhgfcaaaGreatDoor
