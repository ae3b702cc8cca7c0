/- Slices of structs of 9 cells (impl.Obs): written by gen_st.py. -/
import Derived.Test.YtkeflpcokcfcjaaDoorFm
import Derived.Test.YtkeflpcokcfcjaaDoorB1
import Derived.Test.YtkeflpcokcfcjaaDoorMk
namespace Go.Proofs.YtkeflpcokcfcjaaDoor
open Go.RowKit Go.Sort

structure Obv where
  c0 : Int
  c1 : Int
  c2 : Int
  c3 : Int
  c4 : Int
  c5 : Int
  p : Int
  q : Int
  t : Int
abbrev vO (x : Obv) : Value := .agg #[.int .i8 x.c0, .int .i8 x.c1, .int .i8 x.c2, .int .i8 x.c3, .int .i8 x.c4, .int .i8 x.c5, .int .i64 x.p, .int .i64 x.q, .int .i64 x.t]
def cO (x : Obv) : List Value := [.int .i8 x.c0, .int .i8 x.c1, .int .i8 x.c2, .int .i8 x.c3, .int .i8 x.c4, .int .i8 x.c5, .int .i64 x.p, .int .i64 x.q, .int .i64 x.t]
def zO : Obv := ⟨0, 0, 0, 0, 0, 0, 0, 0, 0⟩
instance inhO : Inhabited Obv := ⟨zO⟩
theorem cO_len (x : Obv) : (cO x).length = 9 := rfl
theorem cO_one (x : Obv) : ∀ u ∈ cO x, u.oneCell' = true := by
  intro u hu
  simp only [cO, List.mem_cons, List.not_mem_nil, or_false] at hu
  rcases hu with rfl | rfl | rfl | rfl | rfl | rfl | rfl | rfl | rfl <;> rfl
def flO (xs : List Obv) : List Value := xs.flatMap cO
theorem flO_cons (x : Obv) (r : List Obv) : flO (x :: r) = cO x ++ flO r := by simp [flO]
theorem flO_app (xs : List Obv) (x : Obv) : flO xs ++ cO x = flO (xs ++ [x]) := by simp [flO]
theorem flO_app2 (xs ys : List Obv) : flO (xs ++ ys) = flO xs ++ flO ys := by simp [flO]
theorem flO_len : ∀ xs : List Obv, (flO xs).length = xs.length * 9
  | [] => rfl
  | x :: r => by rw [flO_cons, List.length_append, cO_len, flO_len r, List.length_cons]; omega
theorem flO_one (xs : List Obv) : ∀ u ∈ flO xs, u.oneCell' = true := by
  intro u hu
  unfold flO at hu
  simp only [List.mem_flatMap] at hu
  obtain ⟨x, _, hx⟩ := hu
  exact cO_one x u hx
theorem flO_get : ∀ (xs : List Obv) (k : Nat) (x : Obv), xs[k]? = some x → ∀ j, j < 9 → (flO xs)[k * 9 + j]? = (cO x)[j]?
  | [], k, x, h, _, _ => by simp at h
  | y :: r, 0, x, h, j, hj => by
    simp at h
    subst h
    rw [flO_cons, Nat.zero_mul, Nat.zero_add, List.getElem?_append_left (by rw [cO_len]; exact hj)]
  | y :: r, k + 1, x, h, j, hj => by
    rw [flO_cons, List.getElem?_append_right (by rw [cO_len]; omega), cO_len, show (k + 1) * 9 + j - 9 = k * 9 + j by omega]
    exact flO_get r k x (by simpa using h) j hj
/-- The cells of an element, put one after the other. -/
def putO (l : List Value) (i : Nat) (x : Obv) : List Value := ((((((((l.set i (.int .i8 x.c0)).set (i + 1) (.int .i8 x.c1)).set (i + 2) (.int .i8 x.c2)).set (i + 3) (.int .i8 x.c3)).set (i + 4) (.int .i8 x.c4)).set (i + 5) (.int .i8 x.c5)).set (i + 6) (.int .i64 x.p)).set (i + 7) (.int .i64 x.q)).set (i + 8) (.int .i64 x.t)
theorem putO_app (p l : List Value) (i : Nat) (x : Obv) (h : p.length = 9) : putO (p ++ l) (i + 9) x = p ++ putO l i x := by
  unfold putO
  rw [List.set_append_right _ _ (by omega), show i + 9 - p.length = i by omega]
  rw [List.set_append_right _ _ (by omega), show i + 9 + 1 - p.length = i + 1 by omega]
  rw [List.set_append_right _ _ (by omega), show i + 9 + 2 - p.length = i + 2 by omega]
  rw [List.set_append_right _ _ (by omega), show i + 9 + 3 - p.length = i + 3 by omega]
  rw [List.set_append_right _ _ (by omega), show i + 9 + 4 - p.length = i + 4 by omega]
  rw [List.set_append_right _ _ (by omega), show i + 9 + 5 - p.length = i + 5 by omega]
  rw [List.set_append_right _ _ (by omega), show i + 9 + 6 - p.length = i + 6 by omega]
  rw [List.set_append_right _ _ (by omega), show i + 9 + 7 - p.length = i + 7 by omega]
  rw [List.set_append_right _ _ (by omega), show i + 9 + 8 - p.length = i + 8 by omega]
theorem putO_set : ∀ (xs : List Obv) (k : Nat) (x : Obv), k < xs.length → putO (flO xs) (k * 9) x = flO (xs.set k x)
  | [], k, x, h => by simp at h
  | y :: r, 0, x, _ => by simp [flO_cons, putO, cO]
  | y :: r, k + 1, x, h => by
    rw [flO_cons, show (k + 1) * 9 = k * 9 + 9 by omega, putO_app _ _ _ _ (cO_len y), putO_set r k x (by simpa using h), List.set_cons_succ, flO_cons]
/-- A row: its elements, and what is spare. -/
def rowO (ys : List Obv) (rest : List Value) : Array Value := (flO ys ++ rest).toArray
theorem rowO_size (ys : List Obv) (rest : List Value) : (rowO ys rest).size = ys.length * 9 + rest.length := by simp [rowO, flO_len]
theorem rowO_get {ys : List Obv} {rest : List Value} {k : Nat} {x : Obv} (h : ys[k]? = some x) (j : Nat) (hj : j < 9) : (rowO ys rest)[k * 9 + j]? = (cO x)[j]? := by
  have hk : k < ys.length := (List.getElem?_eq_some_iff.1 h).1
  unfold rowO
  rw [List.getElem?_toArray, List.getElem?_append_left (by rw [flO_len]; omega)]
  exact flO_get ys k x h j hj
/-- The cells of an element at an address. -/
structure CelO (w : World) (a : Addr) (x : Obv) : Prop where
  h0 : w.cell? a = some (.int .i8 x.c0)
  h1 : w.cell? ⟨a.block, a.off + 1, none⟩ = some (.int .i8 x.c1)
  h2 : w.cell? ⟨a.block, a.off + 2, none⟩ = some (.int .i8 x.c2)
  h3 : w.cell? ⟨a.block, a.off + 3, none⟩ = some (.int .i8 x.c3)
  h4 : w.cell? ⟨a.block, a.off + 4, none⟩ = some (.int .i8 x.c4)
  h5 : w.cell? ⟨a.block, a.off + 5, none⟩ = some (.int .i8 x.c5)
  h6 : w.cell? ⟨a.block, a.off + 6, none⟩ = some (.int .i64 x.p)
  h7 : w.cell? ⟨a.block, a.off + 7, none⟩ = some (.int .i64 x.q)
  h8 : w.cell? ⟨a.block, a.off + 8, none⟩ = some (.int .i64 x.t)
theorem CelO.lt {w : World} {a : Addr} {x : Obv} (h : CelO w a x) : a.block < w.heap.size := World.block_lt_of_cell? _ _ h.h0
theorem CelO.keep {w w' : World} {a : Addr} {x : Obv} (h : CelO w a x) (hg : Gr w w') : CelO w' a x :=
  ⟨(hg.cellI (World.block_lt_of_cell? _ _ h.h0)).trans h.h0, (hg.cellI (World.block_lt_of_cell? _ _ h.h1)).trans h.h1, (hg.cellI (World.block_lt_of_cell? _ _ h.h2)).trans h.h2, (hg.cellI (World.block_lt_of_cell? _ _ h.h3)).trans h.h3, (hg.cellI (World.block_lt_of_cell? _ _ h.h4)).trans h.h4, (hg.cellI (World.block_lt_of_cell? _ _ h.h5)).trans h.h5, (hg.cellI (World.block_lt_of_cell? _ _ h.h6)).trans h.h6, (hg.cellI (World.block_lt_of_cell? _ _ h.h7)).trans h.h7, (hg.cellI (World.block_lt_of_cell? _ _ h.h8)).trans h.h8⟩
theorem CelO.only {w w' : World} {g : Nat} {a : Addr} {x : Obv} (h : CelO w a x) (o : Only g w w') (hne : a.block ≠ g) : CelO w' a x :=
  ⟨o.keepI h.h0 hne, o.keepI h.h1 hne, o.keepI h.h2 hne, o.keepI h.h3 hne, o.keepI h.h4 hne, o.keepI h.h5 hne, o.keepI h.h6 hne, o.keepI h.h7 hne, o.keepI h.h8 hne⟩
theorem CelO.blk {w : World} {g k : Nat} {x : Obv} (h : CelO w ⟨g, k, none⟩ x) : w.cell? ⟨g, k, none⟩ = some (.int .i8 x.c0) ∧ w.cell? ⟨g, k + 1, none⟩ = some (.int .i8 x.c1) ∧ w.cell? ⟨g, k + 2, none⟩ = some (.int .i8 x.c2) ∧ w.cell? ⟨g, k + 3, none⟩ = some (.int .i8 x.c3) ∧ w.cell? ⟨g, k + 4, none⟩ = some (.int .i8 x.c4) ∧ w.cell? ⟨g, k + 5, none⟩ = some (.int .i8 x.c5) ∧ w.cell? ⟨g, k + 6, none⟩ = some (.int .i64 x.p) ∧ w.cell? ⟨g, k + 7, none⟩ = some (.int .i64 x.q) ∧ w.cell? ⟨g, k + 8, none⟩ = some (.int .i64 x.t) :=
  ⟨h.h0, h.h1, h.h2, h.h3, h.h4, h.h5, h.h6, h.h7, h.h8⟩
theorem celO_of {w : World} {g k : Nat} {T : TypeId} {ys : List Obv} {rest : List Value} {x : Obv} (h : w.heap[g]? = some (.cells (rowO ys rest) T)) (hk : ys[k]? = some x) : CelO w ⟨g, k * 9, none⟩ x := by
  have hj := rowO_get (rest := rest) hk
  refine ⟨?_, ?_, ?_, ?_, ?_, ?_, ?_, ?_, ?_⟩
  · have := hj 0 (by omega); simp only [World.cell?, h]; simpa [cO] using this
  · have := hj 1 (by omega); simp only [World.cell?, h]; simpa [cO] using this
  · have := hj 2 (by omega); simp only [World.cell?, h]; simpa [cO] using this
  · have := hj 3 (by omega); simp only [World.cell?, h]; simpa [cO] using this
  · have := hj 4 (by omega); simp only [World.cell?, h]; simpa [cO] using this
  · have := hj 5 (by omega); simp only [World.cell?, h]; simpa [cO] using this
  · have := hj 6 (by omega); simp only [World.cell?, h]; simpa [cO] using this
  · have := hj 7 (by omega); simp only [World.cell?, h]; simpa [cO] using this
  · have := hj 8 (by omega); simp only [World.cell?, h]; simpa [cO] using this
/-- A slice of the laws' elements, as it came in. -/
def RawO (w : World) (v : Value) (xs : List Obv) : Prop :=
  (v = .slice none 0 0 ∧ xs = []) ∨ ∃ (ad : Addr) (cap : Nat), v = .slice (some ad) xs.length cap ∧ ∀ (k : Nat) (x : Obv), xs[k]? = some x → CelO w (ad.add (k * 9)) x
theorem RawO.keep {w w' : World} {v : Value} {xs : List Obv} (h : RawO w v xs) (hg : Gr w w') : RawO w' v xs := by
  rcases h with h | ⟨ad, cap, h1, h3⟩
  · exact .inl h
  · exact .inr ⟨ad, cap, h1, fun k x hk => (h3 k x hk).keep hg⟩
/-- A slice that reads as these elements. -/
def RdO (w : World) (A : Option Addr) (xs : List Obv) : Prop := ∀ (k : Nat) (x : Obv), xs[k]? = some x → ∃ ad, A = some ad ∧ CelO w (ad.add (k * 9)) x
theorem RdO.keep {w w' : World} {A : Option Addr} {xs : List Obv} (h : RdO w A xs) (hg : Gr w w') : RdO w' A xs := fun k x hk => by
  obtain ⟨ad, e, c⟩ := h k x hk
  exact ⟨ad, e, c.keep hg⟩
theorem RdO.only {w w' : World} {g : Nat} {A : Option Addr} {xs : List Obv} (h : RdO w A xs) (o : Only g w w') (hne : ∀ ad, A = some ad → ad.block ≠ g) : RdO w' A xs := fun k x hk => by
  obtain ⟨ad, e, c⟩ := h k x hk
  exact ⟨ad, e, c.only o (by rw [addI_block]; exact hne ad e)⟩
theorem RdO.of_block {w : World} {g : Nat} {T : TypeId} {xs : List Obv} {rest : List Value} (h : w.heap[g]? = some (.cells (rowO xs rest) T)) : RdO w (some ⟨g, 0, none⟩) xs := fun k x hk =>
  ⟨_, rfl, by rw [add_at]; exact celO_of h hk⟩
theorem RdO.nil (w : World) (A : Option Addr) : RdO w A [] := fun k x hk => by simp at hk
theorem rowO_put (ys : List Obv) (rest : List Value) (k : Nat) (x : Obv) (h : k < ys.length) : (((((((((rowO ys rest).setIfInBounds (k * 9) (.int .i8 x.c0)).setIfInBounds (k * 9 + 1) (.int .i8 x.c1)).setIfInBounds (k * 9 + 2) (.int .i8 x.c2)).setIfInBounds (k * 9 + 3) (.int .i8 x.c3)).setIfInBounds (k * 9 + 4) (.int .i8 x.c4)).setIfInBounds (k * 9 + 5) (.int .i8 x.c5)).setIfInBounds (k * 9 + 6) (.int .i64 x.p)).setIfInBounds (k * 9 + 7) (.int .i64 x.q)).setIfInBounds (k * 9 + 8) (.int .i64 x.t) = rowO (ys.set k x) rest := by
  have e : putO (flO ys ++ rest) (k * 9) x = flO (ys.set k x) ++ rest := by
    rw [← putO_set ys k x h]
    have hl := flO_len ys
    unfold putO
    rw [List.set_append_left _ _ (by omega), List.set_append_left _ _ (by simp only [List.length_set]; omega), List.set_append_left _ _ (by simp only [List.length_set]; omega), List.set_append_left _ _ (by simp only [List.length_set]; omega), List.set_append_left _ _ (by simp only [List.length_set]; omega), List.set_append_left _ _ (by simp only [List.length_set]; omega), List.set_append_left _ _ (by simp only [List.length_set]; omega), List.set_append_left _ _ (by simp only [List.length_set]; omega), List.set_append_left _ _ (by simp only [List.length_set]; omega)]
  unfold putO at e
  unfold rowO
  rw [← e]
  simp only [List.setIfInBounds_toArray]
theorem storeO {w : World} {g k : Nat} {T : TypeId} {ys : List Obv} {rest : List Value} (x : Obv) (h : w.heap[g]? = some (.cells (rowO ys rest) T)) (hk : k < ys.length) :
    (((((((((w.setCell ⟨g, k * 9, none⟩ (.int .i8 x.c0)).setCell ⟨g, k * 9 + 1, none⟩ (.int .i8 x.c1)).setCell ⟨g, k * 9 + 2, none⟩ (.int .i8 x.c2)).setCell ⟨g, k * 9 + 3, none⟩ (.int .i8 x.c3)).setCell ⟨g, k * 9 + 4, none⟩ (.int .i8 x.c4)).setCell ⟨g, k * 9 + 5, none⟩ (.int .i8 x.c5)).setCell ⟨g, k * 9 + 6, none⟩ (.int .i64 x.p)).setCell ⟨g, k * 9 + 7, none⟩ (.int .i64 x.q)).setCell ⟨g, k * 9 + 8, none⟩ (.int .i64 x.t)).heap[g]? = some (.cells (rowO (ys.set k x) rest) T) := by
  have e0 := Joins.block_setCell (i := k * 9) h (.int .i8 x.c0)
  have e1 := Joins.block_setCell (i := k * 9 + 1) e0 (.int .i8 x.c1)
  have e2 := Joins.block_setCell (i := k * 9 + 2) e1 (.int .i8 x.c2)
  have e3 := Joins.block_setCell (i := k * 9 + 3) e2 (.int .i8 x.c3)
  have e4 := Joins.block_setCell (i := k * 9 + 4) e3 (.int .i8 x.c4)
  have e5 := Joins.block_setCell (i := k * 9 + 5) e4 (.int .i8 x.c5)
  have e6 := Joins.block_setCell (i := k * 9 + 6) e5 (.int .i64 x.p)
  have e7 := Joins.block_setCell (i := k * 9 + 7) e6 (.int .i64 x.q)
  have e8 := Joins.block_setCell (i := k * 9 + 8) e7 (.int .i64 x.t)
  rw [rowO_put ys rest k x hk] at e8
  exact e8
theorem madeO (n : Nat) : madeCells #[.int .i8 0, .int .i8 0, .int .i8 0, .int .i8 0, .int .i8 0, .int .i8 0, .int .i64 0, .int .i64 0, .int .i64 0] (n * 9) = rowO (List.replicate n zO) [] := by
  refine Array.ext_getElem? fun i => ?_
  by_cases hi : i < n * 9
  · have hk : (List.replicate n zO)[i / 9]? = some zO := by rw [List.getElem?_replicate, if_pos (by omega)]
    have h2 := rowO_get (rest := []) hk (i % 9) (by omega)
    rw [show i / 9 * 9 + i % 9 = i by omega] at h2
    rw [h2]
    unfold madeCells
    have hm : i % 9 < 9 := by omega
    simp only [cO, zO]
    rcases (show i % 9 = 0 ∨ i % 9 = 1 ∨ i % 9 = 2 ∨ i % 9 = 3 ∨ i % 9 = 4 ∨ i % 9 = 5 ∨ i % 9 = 6 ∨ i % 9 = 7 ∨ i % 9 = 8 by omega) with h | h | h | h | h | h | h | h | h <;> simp [hi, h]
  · rw [Array.getElem?_eq_none (by rw [size_madeCells]; omega), Array.getElem?_eq_none (by simp [rowO_size]; omega)]
theorem takeO_step {xs : List Obv} {k : Nat} {x : Obv} (h : xs[k]? = some x) :
    (xs.take k ++ List.replicate (xs.length - k) zO).set k x = xs.take (k + 1) ++ List.replicate (xs.length - (k + 1)) zO := by
  have hk : k < xs.length := (List.getElem?_eq_some_iff.1 h).1
  have hl : (xs.take k).length = k := by simp; omega
  rw [List.set_append_right _ _ (by omega), hl, Nat.sub_self]
  rw [show xs.length - k = (xs.length - (k + 1)) + 1 by omega, List.replicate_succ, List.set_cons_zero]
  rw [List.take_add_one, h]
  simp
theorem takeO_get {xs : List Obv} {k : Nat} (hk : k < xs.length) : (xs.take k ++ List.replicate (xs.length - k) zO)[k]? = some zO := by
  have hl : (xs.take k).length = k := by simp; omega
  rw [List.getElem?_append_right (by omega), hl, Nat.sub_self, List.getElem?_replicate, if_pos (by omega)]
theorem takeO_len {xs : List Obv} {k : Nat} (hk : k < xs.length) : (xs.take k ++ List.replicate (xs.length - k) zO).length = xs.length := by simp; omega
set_option maxRecDepth 100000 in
theorem makeO (n : Nat) (hn : n ≤ 1048576) (w : World) :
    (Instr.makeSlice 29 (.int .i64 (n : Int)) (.int .i64 (n : Int))).run Tryd.prog w = .ok (.slice (some ⟨w.heap.size, 0, none⟩) n n) (w.alloc (.cells (rowO (List.replicate n zO) []) 67)) := by
  obtain ⟨i, hi, hz, hs, hb⟩ : ∃ i, Tryd.prog.info? 67 = some i ∧ i.zero = some (vO zO) ∧ i.size = 9 ∧ i.bytes = 32 := ⟨_, rfl, rfl, rfl, rfl⟩
  have h := run_make (P := Tryd.prog) w 29 67 i (vO zO) Tryd.underlying29 hi hz .i64 .i64 n n (by omega) (Int.le_refl _) (by rw [hb]; omega) (by omega)
  rw [hs] at h
  simp only [Int.toNat_natCast] at h
  rw [h, ← madeO]
  rfl
/-! rows of the call's own -/
theorem own_openO {w : World} {base : Nat} {E : TypeId} {A : Option Addr} {c : Nat} {ys : List Obv} (h : w.ownsRow base E 9 (.slice A ys.length c) ys.length (flO ys)) (h0 : 0 < ys.length) :
    ∃ g rest, A = some ⟨g, 0, none⟩ ∧ base ≤ g ∧ w.heap[g]? = some (.cells (rowO ys rest) E) ∧ c ≤ maxLen ∧ ys.length * 9 + rest.length = c * 9 := by
  rcases h.2 with ⟨hv, hn⟩ | ⟨g, cap, cur, hv, hb, hg, hnc, hcm, hcs, ht⟩
  · omega
  · injection hv with e1 e2 e3
    subst e1 e3
    refine ⟨g, cur.toList.drop (ys.length * 9), rfl, hb, ?_, hcm, ?_⟩
    · rw [hg]
      have : rowO ys (cur.toList.drop (ys.length * 9)) = cur := by
        unfold rowO
        rw [← ht, List.take_append_drop]
      rw [this]
    · have := congrArg List.length ht
      rw [flO_len] at this
      simp at this ⊢
      omega
theorem RdO.of_own {w : World} {base : Nat} {E : TypeId} {A : Option Addr} {n c : Nat} {ys : List Obv} (h : w.ownsRow base E 9 (.slice A n c) n (flO ys)) : RdO w A ys := fun k x hk => by
  have hkl : k < ys.length := (List.getElem?_eq_some_iff.1 hk).1
  have hl : n = ys.length := by have := h.1; rw [flO_len] at this; omega
  subst hl
  obtain ⟨g, rest, rfl, _, hg, _⟩ := own_openO h (by omega)
  exact ⟨_, rfl, by rw [add_at]; exact celO_of hg hk⟩
theorem RdO.vals {w : World} {A : Option Addr} {xs : List Obv} (h : RdO w A xs) (j : Nat) (u : Value) (hj : (flO xs)[j]? = some u) : ∃ ad, A = some ad ∧ ∃ b o, (ad.add (j / 9 * 9)).block = b ∧ (ad.add (j / 9 * 9)).off = o ∧ (w.cell? (ad.add (j / 9 * 9)) = some u ∨ w.cell? ⟨b, o + j % 9, none⟩ = some u) := by
  have hjl : j < xs.length * 9 := by have := (List.getElem?_eq_some_iff.1 hj).1; rwa [flO_len] at this
  obtain ⟨x, hk⟩ : ∃ x, xs[j / 9]? = some x := ⟨xs[j / 9]'(by omega), List.getElem?_eq_getElem _⟩
  obtain ⟨ad, e, c⟩ := h _ x hk
  have h1 := flO_get xs _ x hk (j % 9) (by omega)
  rw [show j / 9 * 9 + j % 9 = j by omega, hj] at h1
  refine ⟨ad, e, _, _, rfl, rfl, ?_⟩
  rcases (show j % 9 = 0 ∨ j % 9 = 1 ∨ j % 9 = 2 ∨ j % 9 = 3 ∨ j % 9 = 4 ∨ j % 9 = 5 ∨ j % 9 = 6 ∨ j % 9 = 7 ∨ j % 9 = 8 by omega) with hm | hm | hm | hm | hm | hm | hm | hm | hm <;> rw [hm] at h1 ⊢
  · simp [cO] at h1; subst h1; exact .inl c.h0
  · simp [cO] at h1; subst h1; exact .inr c.h1
  · simp [cO] at h1; subst h1; exact .inr c.h2
  · simp [cO] at h1; subst h1; exact .inr c.h3
  · simp [cO] at h1; subst h1; exact .inr c.h4
  · simp [cO] at h1; subst h1; exact .inr c.h5
  · simp [cO] at h1; subst h1; exact .inr c.h6
  · simp [cO] at h1; subst h1; exact .inr c.h7
  · simp [cO] at h1; subst h1; exact .inr c.h8
end Go.Proofs.YtkeflpcokcfcjaaDoor
namespace Go.Proofs.YtkeflpcokcfcjaaDoor
open Go.RowKit Go.Sort

theorem cells6 {w : World} {b : Nat} {x0 x1 x2 x3 x4 x5 : Value} {T : TypeId} (h : w.heap[b]? = some (.cells #[x0, x1, x2, x3, x4, x5] T)) : w.cell? ⟨b, 0, none⟩ = some x0 ∧ w.cell? ⟨b, 1, none⟩ = some x1 ∧ w.cell? ⟨b, 2, none⟩ = some x2 ∧ w.cell? ⟨b, 3, none⟩ = some x3 ∧ w.cell? ⟨b, 4, none⟩ = some x4 ∧ w.cell? ⟨b, 5, none⟩ = some x5 := by
  simp [World.cell?, h]
theorem cells9 {w : World} {b : Nat} {x0 x1 x2 x3 x4 x5 x6 x7 x8 : Value} {T : TypeId} (h : w.heap[b]? = some (.cells #[x0, x1, x2, x3, x4, x5, x6, x7, x8] T)) : w.cell? ⟨b, 0, none⟩ = some x0 ∧ w.cell? ⟨b, 1, none⟩ = some x1 ∧ w.cell? ⟨b, 2, none⟩ = some x2 ∧ w.cell? ⟨b, 3, none⟩ = some x3 ∧ w.cell? ⟨b, 4, none⟩ = some x4 ∧ w.cell? ⟨b, 5, none⟩ = some x5 ∧ w.cell? ⟨b, 6, none⟩ = some x6 ∧ w.cell? ⟨b, 7, none⟩ = some x7 ∧ w.cell? ⟨b, 8, none⟩ = some x8 := by
  simp [World.cell?, h]
theorem set6_new9 {w : World} {g : Nat} {x0 x1 x2 x3 x4 x5 x6 x7 x8 a0 a1 a2 a3 a4 a5 : Value} {T : TypeId} (h : w.heap[g]? = some (.cells #[x0, x1, x2, x3, x4, x5, x6, x7, x8] T)) :
    ((((((w.setCell ⟨g, 0, none⟩ a0).setCell ⟨g, 1, none⟩ a1).setCell ⟨g, 2, none⟩ a2).setCell ⟨g, 3, none⟩ a3).setCell ⟨g, 4, none⟩ a4).setCell ⟨g, 5, none⟩ a5).heap[g]? = some (.cells #[a0, a1, a2, a3, a4, a5, x6, x7, x8] T) := by
  have e0 := Joins.block_setCell (i := 0) h a0
  have e1 := Joins.block_setCell (i := 1) e0 a1
  have e2 := Joins.block_setCell (i := 2) e1 a2
  have e3 := Joins.block_setCell (i := 3) e2 a3
  have e4 := Joins.block_setCell (i := 4) e3 a4
  have e5 := Joins.block_setCell (i := 5) e4 a5
  simpa using e5
theorem set6_old {w : World} {g j : Nat} {a0 a1 a2 a3 a4 a5 : Value} {o : Obj} (h : w.heap[j]? = some o) (hn : j ≠ g) :
    ((((((w.setCell ⟨g, 0, none⟩ a0).setCell ⟨g, 1, none⟩ a1).setCell ⟨g, 2, none⟩ a2).setCell ⟨g, 3, none⟩ a3).setCell ⟨g, 4, none⟩ a4).setCell ⟨g, 5, none⟩ a5).heap[j]? = some o := by
  repeat (refine keepSet' ?_ (by simpa using hn))
  exact h

def a6 (c0 c1 c2 c3 c4 c5 : Int) (k : Nat) : Array Value := if k = 0 then #[.int .i8 0, .int .i8 0, .int .i8 0, .int .i8 0, .int .i8 0, .int .i8 0] else if k = 1 then #[.int .i8 c0, .int .i8 0, .int .i8 0, .int .i8 0, .int .i8 0, .int .i8 0] else if k = 2 then #[.int .i8 c0, .int .i8 c1, .int .i8 0, .int .i8 0, .int .i8 0, .int .i8 0] else if k = 3 then #[.int .i8 c0, .int .i8 c1, .int .i8 c2, .int .i8 0, .int .i8 0, .int .i8 0] else if k = 4 then #[.int .i8 c0, .int .i8 c1, .int .i8 c2, .int .i8 c3, .int .i8 0, .int .i8 0] else if k = 5 then #[.int .i8 c0, .int .i8 c1, .int .i8 c2, .int .i8 c3, .int .i8 c4, .int .i8 0] else #[.int .i8 c0, .int .i8 c1, .int .i8 c2, .int .i8 c3, .int .i8 c4, .int .i8 c5]
set_option maxRecDepth 20000 in
set_option maxHeartbeats 1000000 in
theorem toA6_any (c0 c1 c2 c3 c4 c5 : Int) (w : World) :
    Calls Tryd.prog 72 #[.agg #[.int .i8 c0, .int .i8 c1, .int .i8 c2, .int .i8 c3, .int .i8 c4, .int .i8 c5]] w fun e w' => e = .returned (.agg #[.int .i8 c0, .int .i8 c1, .int .i8 c2, .int .i8 c3, .int .i8 c4, .int .i8 c5]) ∧ Gr w w' := by
  go_enter Tryd.func72, Tryd.ntmps72
  go_wp2_with fail
  go_loopw [4] (fun u wr => ∃ (k : Nat), u = .int .i64 (k : Int) ∧ k ≤ 6 ∧ Gr w wr ∧ wr.heap[w.heap.size]? = some (.cells #[.int .i8 c0, .int .i8 c1, .int .i8 c2, .int .i8 c3, .int .i8 c4, .int .i8 c5] 65) ∧ wr.heap[w.heap.size + 1]? = some (.cells #[.int .i8 0, .int .i8 0, .int .i8 0, .int .i8 0, .int .i8 0, .int .i8 0] 65) ∧ wr.heap[w.heap.size + 1 + 1]? = some (.cells (a6 c0 c1 c2 c3 c4 c5 k) 65)) (fun u _ => 6 - (intOf u).toNat)
  case atStart =>
    obtain ⟨x0, x1, x2, _, _⟩ := alloc3 (w := w) (A := .cells #[.int .i8 c0, .int .i8 c1, .int .i8 c2, .int .i8 c3, .int .i8 c4, .int .i8 c5] 65) (B := .cells #[.int .i8 0, .int .i8 0, .int .i8 0, .int .i8 0, .int .i8 0, .int .i8 0] 65) (C := .cells #[.int .i8 0, .int .i8 0, .int .i8 0, .int .i8 0, .int .i8 0, .int .i8 0] 65) (Gr.refl _)
    exact ⟨0, rfl, by omega, ((((Gr.refl _).al _).al _).al _), x0, x1, x2⟩
  case round =>
    obtain ⟨k, rfl, hk, hg, x0, x1, x2⟩ := hrel
    have HG := hid hg; have Y0 := hid x0; have Y1 := hid x1
    rcases (show k = 0 ∨ k = 1 ∨ k = 2 ∨ k = 3 ∨ k = 4 ∨ k = 5 ∨ k = 6 by omega) with rfl | rfl | rfl | rfl | rfl | rfl | rfl
    · have x2 : wr.heap[w.heap.size + 1 + 1]? = some (.cells #[.int .i8 0, .int .i8 0, .int .i8 0, .int .i8 0, .int .i8 0, .int .i8 0] 65) := x2
      have Y2 := hid x2
      obtain ⟨_, _, _, _, _, _⟩ := cells6 x0
      obtain ⟨_, _, _, _, _, _⟩ := cells6 x2
      have _ := fz x2; have _ := ltb x2; have _ := ltb x0
      clear hg x0 x1 x2
      go_wp2_with fail
      exact ⟨⟨1, by simp, by omega, HG.out.setCell (by simp; omega) _, keepSet' Y0.out (by simp <;> omega), keepSet' Y1.out (by simp), by simpa [a6] using Joins.block_setCell (i := 0) Y2.out (.int .i8 c0)⟩, by simp [intOf]⟩
    · have x2 : wr.heap[w.heap.size + 1 + 1]? = some (.cells #[.int .i8 c0, .int .i8 0, .int .i8 0, .int .i8 0, .int .i8 0, .int .i8 0] 65) := x2
      have Y2 := hid x2
      obtain ⟨_, _, _, _, _, _⟩ := cells6 x0
      obtain ⟨_, _, _, _, _, _⟩ := cells6 x2
      have _ := fz x2; have _ := ltb x2; have _ := ltb x0
      clear hg x0 x1 x2
      go_wp2_with fail
      exact ⟨⟨2, by simp, by omega, HG.out.setCell (by simp; omega) _, keepSet' Y0.out (by simp <;> omega), keepSet' Y1.out (by simp), by simpa [a6] using Joins.block_setCell (i := 1) Y2.out (.int .i8 c1)⟩, by simp [intOf]⟩
    · have x2 : wr.heap[w.heap.size + 1 + 1]? = some (.cells #[.int .i8 c0, .int .i8 c1, .int .i8 0, .int .i8 0, .int .i8 0, .int .i8 0] 65) := x2
      have Y2 := hid x2
      obtain ⟨_, _, _, _, _, _⟩ := cells6 x0
      obtain ⟨_, _, _, _, _, _⟩ := cells6 x2
      have _ := fz x2; have _ := ltb x2; have _ := ltb x0
      clear hg x0 x1 x2
      go_wp2_with fail
      exact ⟨⟨3, by simp, by omega, HG.out.setCell (by simp; omega) _, keepSet' Y0.out (by simp <;> omega), keepSet' Y1.out (by simp), by simpa [a6] using Joins.block_setCell (i := 2) Y2.out (.int .i8 c2)⟩, by simp [intOf]⟩
    · have x2 : wr.heap[w.heap.size + 1 + 1]? = some (.cells #[.int .i8 c0, .int .i8 c1, .int .i8 c2, .int .i8 0, .int .i8 0, .int .i8 0] 65) := x2
      have Y2 := hid x2
      obtain ⟨_, _, _, _, _, _⟩ := cells6 x0
      obtain ⟨_, _, _, _, _, _⟩ := cells6 x2
      have _ := fz x2; have _ := ltb x2; have _ := ltb x0
      clear hg x0 x1 x2
      go_wp2_with fail
      exact ⟨⟨4, by simp, by omega, HG.out.setCell (by simp; omega) _, keepSet' Y0.out (by simp <;> omega), keepSet' Y1.out (by simp), by simpa [a6] using Joins.block_setCell (i := 3) Y2.out (.int .i8 c3)⟩, by simp [intOf]⟩
    · have x2 : wr.heap[w.heap.size + 1 + 1]? = some (.cells #[.int .i8 c0, .int .i8 c1, .int .i8 c2, .int .i8 c3, .int .i8 0, .int .i8 0] 65) := x2
      have Y2 := hid x2
      obtain ⟨_, _, _, _, _, _⟩ := cells6 x0
      obtain ⟨_, _, _, _, _, _⟩ := cells6 x2
      have _ := fz x2; have _ := ltb x2; have _ := ltb x0
      clear hg x0 x1 x2
      go_wp2_with fail
      exact ⟨⟨5, by simp, by omega, HG.out.setCell (by simp; omega) _, keepSet' Y0.out (by simp <;> omega), keepSet' Y1.out (by simp), by simpa [a6] using Joins.block_setCell (i := 4) Y2.out (.int .i8 c4)⟩, by simp [intOf]⟩
    · have x2 : wr.heap[w.heap.size + 1 + 1]? = some (.cells #[.int .i8 c0, .int .i8 c1, .int .i8 c2, .int .i8 c3, .int .i8 c4, .int .i8 0] 65) := x2
      have Y2 := hid x2
      obtain ⟨_, _, _, _, _, _⟩ := cells6 x0
      obtain ⟨_, _, _, _, _, _⟩ := cells6 x2
      have _ := fz x2; have _ := ltb x2; have _ := ltb x0
      clear hg x0 x1 x2
      go_wp2_with fail
      exact ⟨⟨6, by simp, by omega, HG.out.setCell (by simp; omega) _, keepSet' Y0.out (by simp <;> omega), keepSet' Y1.out (by simp), by simpa [a6] using Joins.block_setCell (i := 5) Y2.out (.int .i8 c5)⟩, by simp [intOf]⟩
    · have x2 : wr.heap[w.heap.size + 1 + 1]? = some (.cells #[.int .i8 c0, .int .i8 c1, .int .i8 c2, .int .i8 c3, .int .i8 c4, .int .i8 c5] 65) := x2
      obtain ⟨_, _, _, _, _, _⟩ := cells6 x1
      obtain ⟨_, _, _, _, _, _⟩ := cells6 x2
      have _ := fz x1; have _ := ltb x2; have _ := ltb x1
      clear hg x0 x1 x2
      go_wp2
      refine bodyPost_ret (v := .agg #[.int .i8 c0, .int .i8 c1, .int .i8 c2, .int .i8 c3, .int .i8 c4, .int .i8 c5]) (by simp [results, Tryd.results72, go_sem, *]) rfl ⟨rfl, ?_⟩
      exact ((((((HG.out).setCell (by simp <;> omega) _).setCell (by simp <;> omega) _).setCell (by simp <;> omega) _).setCell (by simp <;> omega) _).setCell (by simp <;> omega) _).setCell (by simp <;> omega) _
set_option maxRecDepth 20000 in
set_option maxHeartbeats 1000000 in
theorem toObs_any (x : Obv) (w : World) :
    Calls Tryd.prog 48 #[vO x] w fun e w' => e = .returned (vO x) ∧ Gr w w' := by
  obtain ⟨c0, c1, c2, c3, c4, c5, p, q, t⟩ := x
  go_enter Tryd.func48, Tryd.ntmps48
  go_wp2_with fail
  refine (toA6_any _ _ _ _ _ _ _).mono ?_
  rintro e w1 ⟨rfl, hg⟩
  obtain ⟨x0, x1, x2, hz, g1⟩ := alloc3 hg
  obtain ⟨_, _, _, _, _, _, _, _, _⟩ := cells9 x0
  obtain ⟨_, _, _, _, _, _, _, _, _⟩ := cells9 x1
  obtain ⟨_, _, _, _, _, _, _, _, _⟩ := cells9 x2
  have _ := fz x1; have _ := fz x2
  have _ := ltb x0; have _ := ltb x1; have _ := ltb x2
  have X0 := hid x0; have X1 := hid x1; have X2 := hid x2; have G1 := hid g1
  clear hg x0 x1 x2 g1
  go_wp2_with fail
  refine (toFrac_any _ _ _).mono ?_
  rintro e w2 ⟨rfl, hg2⟩
  have y0 := hg2.keep (set6_old (a0 := .int .i8 c0) (a1 := .int .i8 c1) (a2 := .int .i8 c2) (a3 := .int .i8 c3) (a4 := .int .i8 c4) (a5 := .int .i8 c5) X0.out (show w.heap.size ≠ w.heap.size + 1 + 1 by omega))
  have y1 := hg2.keep (set6_old (a0 := .int .i8 c0) (a1 := .int .i8 c1) (a2 := .int .i8 c2) (a3 := .int .i8 c3) (a4 := .int .i8 c4) (a5 := .int .i8 c5) X1.out (show w.heap.size + 1 ≠ w.heap.size + 1 + 1 by omega))
  have y2 := hg2.keep (set6_new9 (a0 := .int .i8 c0) (a1 := .int .i8 c1) (a2 := .int .i8 c2) (a3 := .int .i8 c3) (a4 := .int .i8 c4) (a5 := .int .i8 c5) X2.out)
  obtain ⟨_, _, _, _, _, _, _, _, _⟩ := cells9 y0
  obtain ⟨_, _, _, _, _, _, _, _, _⟩ := cells9 y1
  obtain ⟨_, _, _, _, _, _, _, _, _⟩ := cells9 y2
  have _ := fz y1; have _ := fz y2
  have _ := ltb y0; have _ := ltb y1; have _ := ltb y2
  have G2 := hid ((((((((G1.out).setCell (by simp <;> omega) _).setCell (by simp <;> omega) _).setCell (by simp <;> omega) _).setCell (by simp <;> omega) _).setCell (by simp <;> omega) _).setCell (by simp <;> omega) _).trans hg2)
  clear hg2 y0 y1 y2 X0 X1 X2 G1
  go_wp2
  refine bodyPost_ret (v := vO ⟨c0, c1, c2, c3, c4, c5, p, q, t⟩) (by simp [results, Tryd.results48, go_sem, *]) rfl ⟨rfl, ?_⟩
  exact ((((((((((((G2.out).setCell (by simp <;> omega) _).setCell (by simp <;> omega) _).setCell (by simp <;> omega) _).setCell (by simp <;> omega) _).setCell (by simp <;> omega) _).setCell (by simp <;> omega) _).setCell (by simp <;> omega) _).setCell (by simp <;> omega) _).setCell (by simp <;> omega) _).setCell (by simp <;> omega) _).setCell (by simp <;> omega) _).setCell (by simp <;> omega) _
set_option maxRecDepth 20000 in
set_option maxHeartbeats 2000000 in
theorem toObsS_some (ad : Addr) (cap : Nat) (xs : List Obv) (w : World) (hn : xs.length ≤ 1048576) (hr : ∀ (k : Nat) (x : Obv), xs[k]? = some x → CelO w (ad.add (k * 9)) x) :
    Calls Tryd.prog 19 #[.slice (some ad) xs.length cap] w fun e w' => e = .returned (.slice (some ⟨w.heap.size, 0, none⟩) xs.length xs.length) ∧ w'.heap[w.heap.size]? = some (.cells (rowO xs []) 67) ∧ Gr w w' := by
  have HR := hid hr; clear hr
  have hmk := makeO xs.length hn
  go_enter Tryd.func19, Tryd.ntmps19
  go_wp2_with fail
  go_loopw [4] (fun u wr => ∃ (k : Nat), u = .int .i64 (k : Int) ∧ k ≤ xs.length ∧ Gr w wr ∧ wr.heap[w.heap.size]? = some (.cells (rowO (xs.take k ++ List.replicate (xs.length - k) zO) []) 67)) (fun u _ => xs.length - (intOf u).toNat)
  case atStart => exact ⟨0, rfl, by omega, (Gr.refl _).al _, by simpa using (alloc1 (Gr.refl (w.alloc (.cells (rowO (List.replicate xs.length zO) []) 67)))).1⟩
  case round =>
    obtain ⟨k, rfl, hk, g, x0⟩ := hrel
    clear hmk
    by_cases hlt : k < xs.length
    · obtain ⟨x, hx⟩ : ∃ x, xs[k]? = some x := ⟨xs[k], List.getElem?_eq_getElem _⟩
      have hz := ltb x0
      have GW := hid g; have X0 := hid x0
      obtain ⟨_, _, _, _, _, _, _, _, _⟩ := (HR.out k x hx).keep g
      have HP := hid hx
      clear g x0 hx
      go_wp2_with fail
      refine (toObs_any x _).mono ?_
      rintro e w1 ⟨rfl, hg1⟩
      have G1 := hid (GW.out.trans hg1)
      have x1 := hg1.keep X0.out
      have _ := ltb x1
      have f1 := fz x1
      obtain ⟨_, _, _, _, _, _, _, _, _⟩ := (celO_of x1 (takeO_get hlt)).blk
      have X1 := hid x1
      have HL := hid (takeO_len hlt)
      clear hg1 x1 X0 GW
      go_wp2_with fail
      refine ⟨⟨k + 1, by simp, by omega, (((((((((G1.out).setCell (by simp <;> omega) _).setCell (by simp <;> omega) _).setCell (by simp <;> omega) _).setCell (by simp <;> omega) _).setCell (by simp <;> omega) _).setCell (by simp <;> omega) _).setCell (by simp <;> omega) _).setCell (by simp <;> omega) _).setCell (by simp <;> omega) _, ?_⟩, by simp [intOf]; omega⟩
      have h := storeO (k := k) x X1.out (by rw [HL.out]; exact hlt)
      rw [takeO_step HP.out] at h
      exact h
    · have hke : k = xs.length := by omega
      have GW := hid g; have X0 := hid x0
      clear g x0
      go_wp2_with fail
      go_ret
      refine ⟨rfl, ?_, GW.out⟩
      have h := X0.out
      rw [hke] at h
      simpa using h
set_option maxRecDepth 20000 in
set_option maxHeartbeats 1000000 in
theorem toObsS_none (w : World) :
    Calls Tryd.prog 19 #[.slice none 0 0] w fun e w' => e = .returned (.slice (some ⟨w.heap.size, 0, none⟩) 0 0) ∧ w'.heap[w.heap.size]? = some (.cells (rowO [] []) 67) ∧ Gr w w' := by
  have hmk : ∀ w : World, (Instr.makeSlice 29 (.int .i64 0) (.int .i64 0)).run Tryd.prog w = .ok (.slice (some ⟨w.heap.size, 0, none⟩) 0 0) (w.alloc (.cells (rowO [] []) 67)) := fun w => makeO 0 (by omega) w
  go_enter Tryd.func19, Tryd.ntmps19
  go_wp2_with fail
  go_loopw [4] (fun u wr => u = .int .i64 0 ∧ Gr w wr ∧ wr.heap[w.heap.size]? = some (.cells (rowO [] []) 67)) (fun _ _ => 0)
  case atStart => exact ⟨rfl, (Gr.refl _).al _, (alloc1 (Gr.refl _)).1⟩
  case round =>
    obtain ⟨rfl, g, x0⟩ := hrel
    have GW := hid g; have X0 := hid x0
    clear g x0
    go_wp2_with fail
    go_ret
    exact ⟨rfl, X0.out, GW.out⟩
theorem toObsS_any (v : Value) (xs : List Obv) (w : World) (hn : xs.length ≤ 1048576) (h : RawO w v xs) :
    Calls Tryd.prog 19 #[v] w fun e w' => e = .returned (.slice (some ⟨w.heap.size, 0, none⟩) xs.length xs.length) ∧ w'.heap[w.heap.size]? = some (.cells (rowO xs []) 67) ∧ Gr w w' := by
  rcases h with ⟨rfl, rfl⟩ | ⟨ad, cap, rfl, hr⟩
  · exact toObsS_none w
  · exact toObsS_some ad cap xs w hn hr
end Go.Proofs.YtkeflpcokcfcjaaDoor
namespace Go.Proofs.YtkeflpcokcfcjaaDoor
open Go.RowKit Go.Sort

set_option maxHeartbeats 400000 in
theorem szO (A : Option Addr) (n c : Nat) (l : Int) (w : World) (h : n ≤ 9223372036854775807) (l0 : 0 ≤ l) (l1 : l ≤ 1048576) :
    Calls Tryd.prog 16 #[.slice A n c, .int .i64 l] w fun e w' => e = .returned (.int .i64 (if (n : Int) ≤ l then l - (n : Int) else -1)) ∧ Gr w w' := by
  by_cases h1 : (n : Int) ≤ l
  · rw [if_pos h1]
    go_enter Tryd.func16, Tryd.ntmps16
    go_wp2
    go_ret
    exact ⟨rfl, Gr.refl _⟩
  · rw [if_neg h1]
    go_enter Tryd.func16, Tryd.ntmps16
    go_wp2
    go_ret
    exact ⟨rfl, Gr.refl _⟩
abbrev tbl (n : Int) (A : Option Addr) (m c : Nat) (b : Bool) (p q : Int) : Value := .agg #[.int .i64 n, .slice A m c, .bool b, .int .i64 p, .int .i64 q]
set_option maxRecDepth 20000 in
set_option maxHeartbeats 400000 in
theorem szTb_yes (n : Int) (A : Option Addr) (m c : Nat) (b : Bool) (p q : Int) (l : Int) (w : World) (h : (m : Int) ≤ l) (l1 : l ≤ 1048576) :
    Calls Tryd.prog 6 #[tbl n A m c b p q, .int .i64 l] w fun x w' => x = .returned (.int .i64 (l - (m : Int))) ∧ Gr w w' := by
  have hs : ∀ w, Calls Tryd.prog 16 #[.slice A m c, .int .i64 l] w fun e w' => e = .returned (.int .i64 (l - (m : Int))) ∧ Gr w w' := fun w => by
    have := szO A m c l w (by omega) (by omega) l1
    rwa [if_pos h] at this
  have HS := hid hs; clear hs
  go_enter Tryd.func6, Tryd.ntmps6
  go_wp2_with fail
  refine (HS.out _).mono ?_
  rintro e w1 ⟨rfl, hg1⟩
  obtain ⟨x1_0, hz1, g1⟩ := alloc1 hg1
  obtain ⟨_, _, _, _, _⟩ := cells5 x1_0
  have _ := fz x1_0
  have _ := ltb x1_0
  have X1_0 := hid x1_0; clear x1_0
  have G1 := hid (g1)
  clear hg1 g1
  go_wp2
  go_ret
  exact ⟨rfl, G1.out⟩
set_option maxRecDepth 20000 in
set_option maxHeartbeats 400000 in
theorem szTb_no (n : Int) (A : Option Addr) (m c : Nat) (b : Bool) (p q : Int) (l : Int) (w : World) (h : l < (m : Int)) (h2 : m ≤ 9223372036854775807) (l0 : 0 ≤ l) (l1 : l ≤ 1048576) :
    Calls Tryd.prog 6 #[tbl n A m c b p q, .int .i64 l] w fun x w' => x = .returned (.int .i64 (-1)) ∧ Gr w w' := by
  have hs : ∀ w, Calls Tryd.prog 16 #[.slice A m c, .int .i64 l] w fun e w' => e = .returned (.int .i64 (-1)) ∧ Gr w w' := fun w => by
    have := szO A m c l w h2 l0 l1
    rwa [if_neg (by omega)] at this
  have HS := hid hs; clear hs
  go_enter Tryd.func6, Tryd.ntmps6
  go_wp2_with fail
  refine (HS.out _).mono ?_
  rintro e w1 ⟨rfl, hg1⟩
  obtain ⟨x1_0, hz1, g1⟩ := alloc1 hg1
  obtain ⟨_, _, _, _, _⟩ := cells5 x1_0
  have _ := fz x1_0
  have _ := ltb x1_0
  have X1_0 := hid x1_0; clear x1_0
  have G1 := hid (g1)
  clear hg1 g1
  go_wp2
  go_ret
  exact ⟨rfl, G1.out⟩
set_option maxRecDepth 20000 in
set_option maxHeartbeats 1000000 in
theorem eqA6_any (c0 c1 c2 c3 c4 c5 : Int) (w : World) :
    Calls Tryd.prog 80 #[.agg #[.int .i8 c0, .int .i8 c1, .int .i8 c2, .int .i8 c3, .int .i8 c4, .int .i8 c5], .agg #[.int .i8 c0, .int .i8 c1, .int .i8 c2, .int .i8 c3, .int .i8 c4, .int .i8 c5]] w fun e w' => e = .returned (.bool true) ∧ Gr w w' := by
  go_enter Tryd.func80, Tryd.ntmps80
  go_wp2_with fail
  go_loopw [5] (fun u wr => ∃ (k : Nat), u = .int .i64 (k : Int) ∧ k ≤ 6 ∧ Gr w wr ∧ wr.heap[w.heap.size]? = some (.cells #[.int .i8 c0, .int .i8 c1, .int .i8 c2, .int .i8 c3, .int .i8 c4, .int .i8 c5] 65) ∧ wr.heap[w.heap.size + 1]? = some (.cells #[.int .i8 c0, .int .i8 c1, .int .i8 c2, .int .i8 c3, .int .i8 c4, .int .i8 c5] 65)) (fun u _ => 6 - (intOf u).toNat)
  case atStart =>
    obtain ⟨x0, x1, _, _⟩ := alloc2 (w := w) (A := .cells #[.int .i8 c0, .int .i8 c1, .int .i8 c2, .int .i8 c3, .int .i8 c4, .int .i8 c5] 65) (B := .cells #[.int .i8 c0, .int .i8 c1, .int .i8 c2, .int .i8 c3, .int .i8 c4, .int .i8 c5] 65) (Gr.refl _)
    exact ⟨0, rfl, by omega, ((Gr.refl _).al _).al _, x0, x1⟩
  case round =>
    obtain ⟨k, rfl, hk, hg, x0, x1⟩ := hrel
    have HG := hid hg; have Y0 := hid x0; have Y1 := hid x1
    clear hg x0 x1
    rcases (show k = 0 ∨ k = 1 ∨ k = 2 ∨ k = 3 ∨ k = 4 ∨ k = 5 ∨ k = 6 by omega) with rfl | rfl | rfl | rfl | rfl | rfl | rfl
    · obtain ⟨a0, a1, a2, a3, a4, a5⟩ := cells6 Y0.out
      obtain ⟨b0, b1, b2, b3, b4, b5⟩ := cells6 Y1.out
      have D0 := hid a0; have D1 := hid b0
      clear a0 b0 a1 b1 a2 b2 a3 b3 a4 b4 a5 b5
      go_wp2_with fail
      refine wp_reg0 6 (by kernel_rfl) (by kernel_rfl) ?_
      apply Exists.intro
      refine ⟨fun wb hb => ?_, ?_⟩
      · have _ := hb.atF D0.out; have _ := hb.atF D1.out
        simp only [headOps, List.contains, List.elem, reduceIte, Bool.false_eq_true]
        repeat (first | go_big_quiet_step (first | (fail)) | quiet_step (fail))
        exact wpQuiet_nil rfl
      intro w1 hg1
      have G1 := hid (HG.out.trans hg1); have Z0 := hid (hg1.keep Y0.out); have Z1 := hid (hg1.keep Y1.out)
      clear hg1
      go_wp2_with fail
      exact ⟨⟨1, by simp, by omega, G1.out, Z0.out, Z1.out⟩, by simp [intOf]⟩
    · obtain ⟨a0, a1, a2, a3, a4, a5⟩ := cells6 Y0.out
      obtain ⟨b0, b1, b2, b3, b4, b5⟩ := cells6 Y1.out
      have D0 := hid a1; have D1 := hid b1
      clear a0 b0 a1 b1 a2 b2 a3 b3 a4 b4 a5 b5
      go_wp2_with fail
      refine wp_reg0 6 (by kernel_rfl) (by kernel_rfl) ?_
      apply Exists.intro
      refine ⟨fun wb hb => ?_, ?_⟩
      · have _ := hb.atF D0.out; have _ := hb.atF D1.out
        simp only [headOps, List.contains, List.elem, reduceIte, Bool.false_eq_true]
        repeat (first | go_big_quiet_step (first | (fail)) | quiet_step (fail))
        exact wpQuiet_nil rfl
      intro w1 hg1
      have G1 := hid (HG.out.trans hg1); have Z0 := hid (hg1.keep Y0.out); have Z1 := hid (hg1.keep Y1.out)
      clear hg1
      go_wp2_with fail
      exact ⟨⟨2, by simp, by omega, G1.out, Z0.out, Z1.out⟩, by simp [intOf]⟩
    · obtain ⟨a0, a1, a2, a3, a4, a5⟩ := cells6 Y0.out
      obtain ⟨b0, b1, b2, b3, b4, b5⟩ := cells6 Y1.out
      have D0 := hid a2; have D1 := hid b2
      clear a0 b0 a1 b1 a2 b2 a3 b3 a4 b4 a5 b5
      go_wp2_with fail
      refine wp_reg0 6 (by kernel_rfl) (by kernel_rfl) ?_
      apply Exists.intro
      refine ⟨fun wb hb => ?_, ?_⟩
      · have _ := hb.atF D0.out; have _ := hb.atF D1.out
        simp only [headOps, List.contains, List.elem, reduceIte, Bool.false_eq_true]
        repeat (first | go_big_quiet_step (first | (fail)) | quiet_step (fail))
        exact wpQuiet_nil rfl
      intro w1 hg1
      have G1 := hid (HG.out.trans hg1); have Z0 := hid (hg1.keep Y0.out); have Z1 := hid (hg1.keep Y1.out)
      clear hg1
      go_wp2_with fail
      exact ⟨⟨3, by simp, by omega, G1.out, Z0.out, Z1.out⟩, by simp [intOf]⟩
    · obtain ⟨a0, a1, a2, a3, a4, a5⟩ := cells6 Y0.out
      obtain ⟨b0, b1, b2, b3, b4, b5⟩ := cells6 Y1.out
      have D0 := hid a3; have D1 := hid b3
      clear a0 b0 a1 b1 a2 b2 a3 b3 a4 b4 a5 b5
      go_wp2_with fail
      refine wp_reg0 6 (by kernel_rfl) (by kernel_rfl) ?_
      apply Exists.intro
      refine ⟨fun wb hb => ?_, ?_⟩
      · have _ := hb.atF D0.out; have _ := hb.atF D1.out
        simp only [headOps, List.contains, List.elem, reduceIte, Bool.false_eq_true]
        repeat (first | go_big_quiet_step (first | (fail)) | quiet_step (fail))
        exact wpQuiet_nil rfl
      intro w1 hg1
      have G1 := hid (HG.out.trans hg1); have Z0 := hid (hg1.keep Y0.out); have Z1 := hid (hg1.keep Y1.out)
      clear hg1
      go_wp2_with fail
      exact ⟨⟨4, by simp, by omega, G1.out, Z0.out, Z1.out⟩, by simp [intOf]⟩
    · obtain ⟨a0, a1, a2, a3, a4, a5⟩ := cells6 Y0.out
      obtain ⟨b0, b1, b2, b3, b4, b5⟩ := cells6 Y1.out
      have D0 := hid a4; have D1 := hid b4
      clear a0 b0 a1 b1 a2 b2 a3 b3 a4 b4 a5 b5
      go_wp2_with fail
      refine wp_reg0 6 (by kernel_rfl) (by kernel_rfl) ?_
      apply Exists.intro
      refine ⟨fun wb hb => ?_, ?_⟩
      · have _ := hb.atF D0.out; have _ := hb.atF D1.out
        simp only [headOps, List.contains, List.elem, reduceIte, Bool.false_eq_true]
        repeat (first | go_big_quiet_step (first | (fail)) | quiet_step (fail))
        exact wpQuiet_nil rfl
      intro w1 hg1
      have G1 := hid (HG.out.trans hg1); have Z0 := hid (hg1.keep Y0.out); have Z1 := hid (hg1.keep Y1.out)
      clear hg1
      go_wp2_with fail
      exact ⟨⟨5, by simp, by omega, G1.out, Z0.out, Z1.out⟩, by simp [intOf]⟩
    · obtain ⟨a0, a1, a2, a3, a4, a5⟩ := cells6 Y0.out
      obtain ⟨b0, b1, b2, b3, b4, b5⟩ := cells6 Y1.out
      have D0 := hid a5; have D1 := hid b5
      clear a0 b0 a1 b1 a2 b2 a3 b3 a4 b4 a5 b5
      go_wp2_with fail
      refine wp_reg0 6 (by kernel_rfl) (by kernel_rfl) ?_
      apply Exists.intro
      refine ⟨fun wb hb => ?_, ?_⟩
      · have _ := hb.atF D0.out; have _ := hb.atF D1.out
        simp only [headOps, List.contains, List.elem, reduceIte, Bool.false_eq_true]
        repeat (first | go_big_quiet_step (first | (fail)) | quiet_step (fail))
        exact wpQuiet_nil rfl
      intro w1 hg1
      have G1 := hid (HG.out.trans hg1); have Z0 := hid (hg1.keep Y0.out); have Z1 := hid (hg1.keep Y1.out)
      clear hg1
      go_wp2_with fail
      exact ⟨⟨6, by simp, by omega, G1.out, Z0.out, Z1.out⟩, by simp [intOf]⟩
    · go_wp2_with fail
      go_ret
      exact ⟨rfl, HG.out⟩
set_option maxRecDepth 20000 in
set_option maxHeartbeats 1000000 in
theorem eqObs_any (x : Obv) (w : World) :
    Calls Tryd.prog 58 #[vO x, vO x] w fun e w' => e = .returned (.bool true) ∧ Gr w w' := by
  obtain ⟨c0, c1, c2, c3, c4, c5, p, q, t⟩ := x
  go_enter Tryd.func58, Tryd.ntmps58
  go_wp2_with fail
  refine (eqA6_any _ _ _ _ _ _ _).mono ?_
  rintro e w1 ⟨rfl, hg1⟩
  obtain ⟨x1_0, x1_1, hz1, g1⟩ := alloc2 hg1
  obtain ⟨_, _, _, _, _, _, _, _, _⟩ := cells9 x1_0
  have _ := fz x1_0
  have _ := ltb x1_0
  obtain ⟨_, _, _, _, _, _, _, _, _⟩ := cells9 x1_1
  have _ := fz x1_1
  have _ := ltb x1_1
  have X1_0 := hid x1_0; clear x1_0
  have X1_1 := hid x1_1; clear x1_1
  have G1 := hid (g1)
  clear hg1 g1
  go_wp2_with fail
  refine (eqFrac_any _ _ _).mono ?_
  rintro e w2 ⟨rfl, hg2⟩
  have x2_1 := hg2.keep X1_0.out
  have x2_2 := hg2.keep X1_1.out
  obtain ⟨_, _, _, _, _, _, _, _, _⟩ := cells9 x2_1
  have _ := fz x2_1
  have _ := ltb x2_1
  obtain ⟨_, _, _, _, _, _, _, _, _⟩ := cells9 x2_2
  have _ := fz x2_2
  have _ := ltb x2_2
  have X2_1 := hid x2_1; clear x2_1
  have X2_2 := hid x2_2; clear x2_2
  have G2 := hid (G1.out.trans hg2)
  clear hg2
  go_wp2
  go_ret
  exact ⟨rfl, G2.out⟩
set_option maxRecDepth 20000 in
set_option maxHeartbeats 1000000 in
theorem eqO_any (A A' : Option Addr) (c c' : Nat) (xs : List Obv) (w : World) (X1 : Hid (RdO w A xs)) (X2 : Hid (RdO w A' xs)) (hn : xs.length ≤ 1048576) :
    Calls Tryd.prog 27 #[.slice A xs.length c, .slice A' xs.length c'] w fun e w' => e = .returned (.bool true) ∧ Gr w w' := by
  go_enter Tryd.func27, Tryd.ntmps27
  go_wp2_with fail
  go_loopw [5] (fun u wr => ∃ (k : Nat), u = .int .i64 (k : Int) ∧ k ≤ xs.length ∧ Gr w wr) (fun u _ => xs.length - (intOf u).toNat)
  case atStart => exact ⟨0, rfl, by omega, Gr.refl _⟩
  case round =>
    obtain ⟨k, rfl, hk, g0⟩ := hrel
    by_cases hlt : k < xs.length
    · obtain ⟨x, hx⟩ : ∃ x, xs[k]? = some x := ⟨xs[k], List.getElem?_eq_getElem _⟩
      obtain ⟨ad, rfl, c1⟩ := (X1.out.keep g0) k x hx
      obtain ⟨ad', rfl, c2⟩ := (X2.out.keep g0) k x hx
      have GW := hid g0; have C1 := hid c1; have C2 := hid c2; clear g0 hx c1 c2
      go_wp2_with fail
      refine wp_reg0 9 (by kernel_rfl) (by kernel_rfl) ?_
      apply Exists.intro
      refine ⟨fun wb hb => ?_, ?_⟩
      · have _ := hb.atF C1.out.h0; have _ := hb.atF C1.out.h1; have _ := hb.atF C1.out.h2; have _ := hb.atF C1.out.h3; have _ := hb.atF C1.out.h4; have _ := hb.atF C1.out.h5; have _ := hb.atF C1.out.h6; have _ := hb.atF C1.out.h7; have _ := hb.atF C1.out.h8; have _ := hb.atF C2.out.h0; have _ := hb.atF C2.out.h1; have _ := hb.atF C2.out.h2; have _ := hb.atF C2.out.h3; have _ := hb.atF C2.out.h4; have _ := hb.atF C2.out.h5; have _ := hb.atF C2.out.h6; have _ := hb.atF C2.out.h7; have _ := hb.atF C2.out.h8
        simp only [headOps, List.contains, List.elem, reduceIte, Bool.false_eq_true]
        repeat (first | go_big_quiet_step (first | (go_at_call 58; exact Calls.of_gr (eqObs_any x _))) | quiet_step (fail))
        exact wpQuiet_nil rfl
      intro w1 hg1
      have G1 := hid (GW.out.trans hg1)
      clear hg1
      go_wp2_with fail
      exact ⟨⟨k + 1, by simp, by omega, G1.out⟩, by simp [intOf]; omega⟩
    · go_wp2_with fail
      go_ret
      exact ⟨rfl, g0⟩
set_option maxRecDepth 20000 in
set_option maxHeartbeats 1000000 in
theorem eqTb_any (n : Int) (A A' : Option Addr) (c c' : Nat) (b : Bool) (p q : Int) (xs : List Obv) (w : World) (X1 : Hid (RdO w A xs)) (X2 : Hid (RdO w A' xs)) (hn : xs.length ≤ 1048576) :
    Calls Tryd.prog 10 #[tbl n A xs.length c b p q, tbl n A' xs.length c' b p q] w fun e w' => e = .returned (.bool true) ∧ Gr w w' := by
  go_enter Tryd.func10, Tryd.ntmps10
  go_wp2_with fail
  refine (eqO_any _ _ _ _ xs _ (hid (X1.out.keep (((Gr.refl w).al _).al _))) (hid (X2.out.keep (((Gr.refl w).al _).al _))) hn).mono ?_
  rintro e w1 ⟨rfl, hg1⟩
  obtain ⟨x1_0, x1_1, hz1, g1⟩ := alloc2 hg1
  obtain ⟨_, _, _, _, _⟩ := cells5 x1_0
  have _ := fz x1_0
  have _ := ltb x1_0
  obtain ⟨_, _, _, _, _⟩ := cells5 x1_1
  have _ := fz x1_1
  have _ := ltb x1_1
  have X1_0 := hid x1_0; clear x1_0
  have X1_1 := hid x1_1; clear x1_1
  have G1 := hid (g1)
  clear hg1 g1
  cases b
  all_goals
    go_wp2_with fail
    refine (eqFrac_any _ _ _).mono ?_
    rintro e w2 ⟨rfl, hg2⟩
    have G2 := hid (G1.out.trans hg2)
    clear hg2
    go_wp2
    go_ret
    exact ⟨rfl, G2.out⟩
end Go.Proofs.YtkeflpcokcfcjaaDoor
namespace Go.Proofs.YtkeflpcokcfcjaaDoor
open Go.RowKit Go.Sort

set_option maxRecDepth 20000 in
set_option maxHeartbeats 2000000 in
theorem toTb_any (n : Int) (A : Option Addr) (cap : Nat) (b : Bool) (p q : Int) (xs : List Obv) (w : World) (hn : xs.length ≤ 1048576) (h : RawO w (.slice A xs.length cap) xs) :
    Calls Tryd.prog 8 #[tbl n A xs.length cap b p q] w fun x w' => ∃ g, x = .returned (tbl n (some ⟨g, 0, none⟩) xs.length xs.length b p q) ∧ w'.heap[g]? = some (.cells (rowO xs []) 67) ∧ w.heap.size ≤ g ∧ Gr w w' := by
  have HR := hid h; clear h
  obtain ⟨y0, y1, y2, _, _⟩ := alloc3 (w := w) (A := .cells #[.int .i64 n, .slice A xs.length cap, .bool b, .int .i64 p, .int .i64 q] 26) (B := .cells #[.int .i64 0, .slice none 0 0, .bool false, .int .i64 0, .int .i64 0] 32) (C := .cells #[.int .i64 n, .slice none 0 0, .bool false, .int .i64 0, .int .i64 0] 32) (Gr.refl _)
  have Y0 := hid y0; have Y1 := hid y1; have Y2 := hid y2
  clear y0 y1 y2
  go_enter Tryd.func8, Tryd.ntmps8
  go_wp2_with fail
  refine (toObsS_any _ xs _ hn (HR.out.keep ((((Gr.refl w).al _).al _).al _))).mono ?_
  rintro x w1 ⟨rfl, x1, hg1⟩
  have z0 := hg1.keep Y0.out
  have z1 := hg1.keep Y1.out
  have z2 := hg1.keep Y2.out
  have hz := ltb Y2.out
  have G1 := hid (((((Gr.refl w).al _).al _).al _).trans hg1)
  obtain ⟨_, _, _, _, _⟩ := cells5 z0
  obtain ⟨_, _, _, _, _⟩ := cells5 z1
  obtain ⟨_, _, _, _, _⟩ := cells5 z2
  have _ := fz z1; have _ := fz z2
  have _ := ltb z0; have _ := ltb z1; have _ := ltb z2
  have X1 := hid x1; have Z0 := hid z0; have Z1 := hid z1; have Z2 := hid z2; have HZ := hid hz
  clear hg1 x1 z0 z1 z2 hz
  generalize (((w.alloc (.cells #[.int .i64 n, .slice A xs.length cap, .bool b, .int .i64 p, .int .i64 q] 26)).alloc (.cells #[.int .i64 0, .slice none 0 0, .bool false, .int .i64 0, .int .i64 0] 32)).alloc (.cells #[.int .i64 n, .slice none 0 0, .bool false, .int .i64 0, .int .i64 0] 32)).heap.size = gg at *
  go_wp2_with fail
  refine (toFrac_any _ _ _).mono ?_
  rintro x w2 ⟨rfl, hg2⟩
  have hzz := HZ.out
  have u0 := hg2.keep (keepSet' (a := ⟨w.heap.size + 1 + 1, 2, none⟩) (v := .bool b) (keepSet' (a := ⟨w.heap.size + 1 + 1, 1, none⟩) (v := .slice (some ⟨gg, 0, none⟩) xs.length xs.length) Z0.out (by simp <;> omega)) (by simp <;> omega))
  have u1 := hg2.keep (keepSet' (a := ⟨w.heap.size + 1 + 1, 2, none⟩) (v := .bool b) (keepSet' (a := ⟨w.heap.size + 1 + 1, 1, none⟩) (v := .slice (some ⟨gg, 0, none⟩) xs.length xs.length) Z1.out (by simp)) (by simp))
  have u2 := hg2.keep (Joins.block_setCell (i := 2) (Joins.block_setCell (i := 1) Z2.out (.slice (some ⟨gg, 0, none⟩) xs.length xs.length)) (.bool b))
  have x2 := hg2.keep (keepSet' (a := ⟨w.heap.size + 1 + 1, 2, none⟩) (v := .bool b) (keepSet' (a := ⟨w.heap.size + 1 + 1, 1, none⟩) (v := .slice (some ⟨gg, 0, none⟩) xs.length xs.length) X1.out (by simp; omega)) (by simp; omega))
  have G2 := hid ((((G1.out).setCell (by simp <;> omega) _).setCell (by simp <;> omega) _).trans hg2)
  simp only [List.setIfInBounds_toArray, List.set_cons_zero, List.set_cons_succ] at u2
  obtain ⟨_, _, _, _, _⟩ := cells5 u0
  obtain ⟨_, _, _, _, _⟩ := cells5 u1
  obtain ⟨_, _, _, _, _⟩ := cells5 u2
  have _ := fz u1; have _ := fz u2
  have _ := ltb u0; have _ := ltb u1; have _ := ltb u2
  have X2 := hid x2
  clear hg2 u0 u1 u2 x2 Z0 Z1 Z2 X1 G1
  go_wp2
  refine bodyPost_ret (v := tbl n (some ⟨gg, 0, none⟩) xs.length xs.length b p q) (by simp [results, Tryd.results8, go_sem, *]) rfl ⟨_, rfl, ?_, ?_, ?_⟩
  · repeat (refine keepSet' ?_ (by simp <;> omega))
    exact X2.out
  · omega
  · exact (((((((G2.out).setCell (by simp <;> omega) _).setCell (by simp <;> omega) _).setCell (by simp <;> omega) _).setCell (by simp <;> omega) _).setCell (by simp <;> omega) _).setCell (by simp <;> omega) _).setCell (by simp <;> omega) _
end Go.Proofs.YtkeflpcokcfcjaaDoor
namespace Go.Proofs.YtkeflpcokcfcjaaDoor
open Go.RowKit Go.Sort

def mO (k0 : Int) (i : Nat) : Value := if i % 9 < 6 then .int .i8 (IntKind.i8.wrap (k0 + (i : Int))) else .int .i64 (k0 + (i : Int))
theorem mO_lt (k0 : Int) (k j : Nat) (h : j < 6) : mO k0 (k * 9 + j) = .int .i8 (IntKind.i8.wrap (k0 + (k : Int) * 9 + (j : Int))) := by
  unfold mO
  rw [if_pos (by omega)]
  congr 2
  omega
theorem mO_ge (k0 : Int) (k j : Nat) (h : 6 ≤ j) (h2 : j < 9) : mO k0 (k * 9 + j) = .int .i64 (k0 + (k : Int) * 9 + (j : Int)) := by
  unfold mO
  rw [if_neg (by omega)]
  congr 1
  omega
end Go.Proofs.YtkeflpcokcfcjaaDoor
