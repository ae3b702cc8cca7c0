/- Slices of structs of 4 cells (impl.Span): written by gen_st.py. -/
import Derived.Test.YtkeflpcokcfcjaaDoorFm
namespace Go.Proofs.YtkeflpcokcfcjaaDoor
open Go.RowKit Go.Sort

structure Spv where
  a : Int
  b : Int
  c : Int
  d : Int
abbrev vN (x : Spv) : Value := .agg #[.int .i64 x.a, .int .i64 x.b, .int .i64 x.c, .int .i64 x.d]
def cN (x : Spv) : List Value := [.int .i64 x.a, .int .i64 x.b, .int .i64 x.c, .int .i64 x.d]
def zN : Spv := ⟨0, 0, 0, 0⟩
instance inhN : Inhabited Spv := ⟨zN⟩
theorem cN_len (x : Spv) : (cN x).length = 4 := rfl
theorem cN_one (x : Spv) : ∀ u ∈ cN x, u.oneCell' = true := by
  intro u hu
  simp only [cN, List.mem_cons, List.not_mem_nil, or_false] at hu
  rcases hu with rfl | rfl | rfl | rfl <;> rfl
def flN (xs : List Spv) : List Value := xs.flatMap cN
theorem flN_cons (x : Spv) (r : List Spv) : flN (x :: r) = cN x ++ flN r := by simp [flN]
theorem flN_app (xs : List Spv) (x : Spv) : flN xs ++ cN x = flN (xs ++ [x]) := by simp [flN]
theorem flN_app2 (xs ys : List Spv) : flN (xs ++ ys) = flN xs ++ flN ys := by simp [flN]
theorem flN_len : ∀ xs : List Spv, (flN xs).length = xs.length * 4
  | [] => rfl
  | x :: r => by rw [flN_cons, List.length_append, cN_len, flN_len r, List.length_cons]; omega
theorem flN_one (xs : List Spv) : ∀ u ∈ flN xs, u.oneCell' = true := by
  intro u hu
  unfold flN at hu
  simp only [List.mem_flatMap] at hu
  obtain ⟨x, _, hx⟩ := hu
  exact cN_one x u hx
theorem flN_get : ∀ (xs : List Spv) (k : Nat) (x : Spv), xs[k]? = some x → ∀ j, j < 4 → (flN xs)[k * 4 + j]? = (cN x)[j]?
  | [], k, x, h, _, _ => by simp at h
  | y :: r, 0, x, h, j, hj => by
    simp at h
    subst h
    rw [flN_cons, Nat.zero_mul, Nat.zero_add, List.getElem?_append_left (by rw [cN_len]; exact hj)]
  | y :: r, k + 1, x, h, j, hj => by
    rw [flN_cons, List.getElem?_append_right (by rw [cN_len]; omega), cN_len, show (k + 1) * 4 + j - 4 = k * 4 + j by omega]
    exact flN_get r k x (by simpa using h) j hj
/-- The cells of an element, put one after the other. -/
def putN (l : List Value) (i : Nat) (x : Spv) : List Value := (((l.set i (.int .i64 x.a)).set (i + 1) (.int .i64 x.b)).set (i + 2) (.int .i64 x.c)).set (i + 3) (.int .i64 x.d)
theorem putN_app (p l : List Value) (i : Nat) (x : Spv) (h : p.length = 4) : putN (p ++ l) (i + 4) x = p ++ putN l i x := by
  unfold putN
  rw [List.set_append_right _ _ (by omega), show i + 4 - p.length = i by omega]
  rw [List.set_append_right _ _ (by omega), show i + 4 + 1 - p.length = i + 1 by omega]
  rw [List.set_append_right _ _ (by omega), show i + 4 + 2 - p.length = i + 2 by omega]
  rw [List.set_append_right _ _ (by omega), show i + 4 + 3 - p.length = i + 3 by omega]
theorem putN_set : ∀ (xs : List Spv) (k : Nat) (x : Spv), k < xs.length → putN (flN xs) (k * 4) x = flN (xs.set k x)
  | [], k, x, h => by simp at h
  | y :: r, 0, x, _ => by simp [flN_cons, putN, cN]
  | y :: r, k + 1, x, h => by
    rw [flN_cons, show (k + 1) * 4 = k * 4 + 4 by omega, putN_app _ _ _ _ (cN_len y), putN_set r k x (by simpa using h), List.set_cons_succ, flN_cons]
/-- A row: its elements, and what is spare. -/
def rowN (ys : List Spv) (rest : List Value) : Array Value := (flN ys ++ rest).toArray
theorem rowN_size (ys : List Spv) (rest : List Value) : (rowN ys rest).size = ys.length * 4 + rest.length := by simp [rowN, flN_len]
theorem rowN_get {ys : List Spv} {rest : List Value} {k : Nat} {x : Spv} (h : ys[k]? = some x) (j : Nat) (hj : j < 4) : (rowN ys rest)[k * 4 + j]? = (cN x)[j]? := by
  have hk : k < ys.length := (List.getElem?_eq_some_iff.1 h).1
  unfold rowN
  rw [List.getElem?_toArray, List.getElem?_append_left (by rw [flN_len]; omega)]
  exact flN_get ys k x h j hj
/-- The cells of an element at an address. -/
structure CelN (w : World) (a : Addr) (x : Spv) : Prop where
  h0 : w.cell? a = some (.int .i64 x.a)
  h1 : w.cell? ⟨a.block, a.off + 1, none⟩ = some (.int .i64 x.b)
  h2 : w.cell? ⟨a.block, a.off + 2, none⟩ = some (.int .i64 x.c)
  h3 : w.cell? ⟨a.block, a.off + 3, none⟩ = some (.int .i64 x.d)
theorem CelN.lt {w : World} {a : Addr} {x : Spv} (h : CelN w a x) : a.block < w.heap.size := World.block_lt_of_cell? _ _ h.h0
theorem CelN.keep {w w' : World} {a : Addr} {x : Spv} (h : CelN w a x) (hg : Gr w w') : CelN w' a x :=
  ⟨(hg.cellI (World.block_lt_of_cell? _ _ h.h0)).trans h.h0, (hg.cellI (World.block_lt_of_cell? _ _ h.h1)).trans h.h1, (hg.cellI (World.block_lt_of_cell? _ _ h.h2)).trans h.h2, (hg.cellI (World.block_lt_of_cell? _ _ h.h3)).trans h.h3⟩
theorem CelN.only {w w' : World} {g : Nat} {a : Addr} {x : Spv} (h : CelN w a x) (o : Only g w w') (hne : a.block ≠ g) : CelN w' a x :=
  ⟨o.keepI h.h0 hne, o.keepI h.h1 hne, o.keepI h.h2 hne, o.keepI h.h3 hne⟩
theorem CelN.blk {w : World} {g k : Nat} {x : Spv} (h : CelN w ⟨g, k, none⟩ x) : w.cell? ⟨g, k, none⟩ = some (.int .i64 x.a) ∧ w.cell? ⟨g, k + 1, none⟩ = some (.int .i64 x.b) ∧ w.cell? ⟨g, k + 2, none⟩ = some (.int .i64 x.c) ∧ w.cell? ⟨g, k + 3, none⟩ = some (.int .i64 x.d) :=
  ⟨h.h0, h.h1, h.h2, h.h3⟩
theorem celN_of {w : World} {g k : Nat} {T : TypeId} {ys : List Spv} {rest : List Value} {x : Spv} (h : w.heap[g]? = some (.cells (rowN ys rest) T)) (hk : ys[k]? = some x) : CelN w ⟨g, k * 4, none⟩ x := by
  have hj := rowN_get (rest := rest) hk
  refine ⟨?_, ?_, ?_, ?_⟩
  · have := hj 0 (by omega); simp only [World.cell?, h]; simpa [cN] using this
  · have := hj 1 (by omega); simp only [World.cell?, h]; simpa [cN] using this
  · have := hj 2 (by omega); simp only [World.cell?, h]; simpa [cN] using this
  · have := hj 3 (by omega); simp only [World.cell?, h]; simpa [cN] using this
/-- A slice of the laws' elements, as it came in. -/
def RawN (w : World) (v : Value) (xs : List Spv) : Prop :=
  (v = .slice none 0 0 ∧ xs = []) ∨ ∃ (ad : Addr) (cap : Nat), v = .slice (some ad) xs.length cap ∧ ∀ (k : Nat) (x : Spv), xs[k]? = some x → CelN w (ad.add (k * 4)) x
theorem RawN.keep {w w' : World} {v : Value} {xs : List Spv} (h : RawN w v xs) (hg : Gr w w') : RawN w' v xs := by
  rcases h with h | ⟨ad, cap, h1, h3⟩
  · exact .inl h
  · exact .inr ⟨ad, cap, h1, fun k x hk => (h3 k x hk).keep hg⟩
/-- A slice that reads as these elements. -/
def RdN (w : World) (A : Option Addr) (xs : List Spv) : Prop := ∀ (k : Nat) (x : Spv), xs[k]? = some x → ∃ ad, A = some ad ∧ CelN w (ad.add (k * 4)) x
theorem RdN.keep {w w' : World} {A : Option Addr} {xs : List Spv} (h : RdN w A xs) (hg : Gr w w') : RdN w' A xs := fun k x hk => by
  obtain ⟨ad, e, c⟩ := h k x hk
  exact ⟨ad, e, c.keep hg⟩
theorem RdN.only {w w' : World} {g : Nat} {A : Option Addr} {xs : List Spv} (h : RdN w A xs) (o : Only g w w') (hne : ∀ ad, A = some ad → ad.block ≠ g) : RdN w' A xs := fun k x hk => by
  obtain ⟨ad, e, c⟩ := h k x hk
  exact ⟨ad, e, c.only o (by rw [addI_block]; exact hne ad e)⟩
theorem RdN.of_block {w : World} {g : Nat} {T : TypeId} {xs : List Spv} {rest : List Value} (h : w.heap[g]? = some (.cells (rowN xs rest) T)) : RdN w (some ⟨g, 0, none⟩) xs := fun k x hk =>
  ⟨_, rfl, by rw [add_at]; exact celN_of h hk⟩
theorem RdN.nil (w : World) (A : Option Addr) : RdN w A [] := fun k x hk => by simp at hk
theorem rowN_put (ys : List Spv) (rest : List Value) (k : Nat) (x : Spv) (h : k < ys.length) : ((((rowN ys rest).setIfInBounds (k * 4) (.int .i64 x.a)).setIfInBounds (k * 4 + 1) (.int .i64 x.b)).setIfInBounds (k * 4 + 2) (.int .i64 x.c)).setIfInBounds (k * 4 + 3) (.int .i64 x.d) = rowN (ys.set k x) rest := by
  have e : putN (flN ys ++ rest) (k * 4) x = flN (ys.set k x) ++ rest := by
    rw [← putN_set ys k x h]
    have hl := flN_len ys
    unfold putN
    rw [List.set_append_left _ _ (by omega), List.set_append_left _ _ (by simp only [List.length_set]; omega), List.set_append_left _ _ (by simp only [List.length_set]; omega), List.set_append_left _ _ (by simp only [List.length_set]; omega)]
  unfold putN at e
  unfold rowN
  rw [← e]
  simp only [List.setIfInBounds_toArray]
theorem storeN {w : World} {g k : Nat} {T : TypeId} {ys : List Spv} {rest : List Value} (x : Spv) (h : w.heap[g]? = some (.cells (rowN ys rest) T)) (hk : k < ys.length) :
    ((((w.setCell ⟨g, k * 4, none⟩ (.int .i64 x.a)).setCell ⟨g, k * 4 + 1, none⟩ (.int .i64 x.b)).setCell ⟨g, k * 4 + 2, none⟩ (.int .i64 x.c)).setCell ⟨g, k * 4 + 3, none⟩ (.int .i64 x.d)).heap[g]? = some (.cells (rowN (ys.set k x) rest) T) := by
  have e0 := Joins.block_setCell (i := k * 4) h (.int .i64 x.a)
  have e1 := Joins.block_setCell (i := k * 4 + 1) e0 (.int .i64 x.b)
  have e2 := Joins.block_setCell (i := k * 4 + 2) e1 (.int .i64 x.c)
  have e3 := Joins.block_setCell (i := k * 4 + 3) e2 (.int .i64 x.d)
  rw [rowN_put ys rest k x hk] at e3
  exact e3
theorem madeN (n : Nat) : madeCells #[.int .i64 0, .int .i64 0, .int .i64 0, .int .i64 0] (n * 4) = rowN (List.replicate n zN) [] := by
  refine Array.ext_getElem? fun i => ?_
  by_cases hi : i < n * 4
  · have hk : (List.replicate n zN)[i / 4]? = some zN := by rw [List.getElem?_replicate, if_pos (by omega)]
    have h2 := rowN_get (rest := []) hk (i % 4) (by omega)
    rw [show i / 4 * 4 + i % 4 = i by omega] at h2
    rw [h2]
    unfold madeCells
    have hm : i % 4 < 4 := by omega
    simp only [cN, zN]
    rcases (show i % 4 = 0 ∨ i % 4 = 1 ∨ i % 4 = 2 ∨ i % 4 = 3 by omega) with h | h | h | h <;> simp [hi, h]
  · rw [Array.getElem?_eq_none (by rw [size_madeCells]; omega), Array.getElem?_eq_none (by simp [rowN_size]; omega)]
theorem takeN_step {xs : List Spv} {k : Nat} {x : Spv} (h : xs[k]? = some x) :
    (xs.take k ++ List.replicate (xs.length - k) zN).set k x = xs.take (k + 1) ++ List.replicate (xs.length - (k + 1)) zN := by
  have hk : k < xs.length := (List.getElem?_eq_some_iff.1 h).1
  have hl : (xs.take k).length = k := by simp; omega
  rw [List.set_append_right _ _ (by omega), hl, Nat.sub_self]
  rw [show xs.length - k = (xs.length - (k + 1)) + 1 by omega, List.replicate_succ, List.set_cons_zero]
  rw [List.take_add_one, h]
  simp
theorem takeN_get {xs : List Spv} {k : Nat} (hk : k < xs.length) : (xs.take k ++ List.replicate (xs.length - k) zN)[k]? = some zN := by
  have hl : (xs.take k).length = k := by simp; omega
  rw [List.getElem?_append_right (by omega), hl, Nat.sub_self, List.getElem?_replicate, if_pos (by omega)]
theorem takeN_len {xs : List Spv} {k : Nat} (hk : k < xs.length) : (xs.take k ++ List.replicate (xs.length - k) zN).length = xs.length := by simp; omega
/-! rows of the call's own -/
theorem own_openN {w : World} {base : Nat} {E : TypeId} {A : Option Addr} {c : Nat} {ys : List Spv} (h : w.ownsRow base E 4 (.slice A ys.length c) ys.length (flN ys)) (h0 : 0 < ys.length) :
    ∃ g rest, A = some ⟨g, 0, none⟩ ∧ base ≤ g ∧ w.heap[g]? = some (.cells (rowN ys rest) E) ∧ c ≤ maxLen ∧ ys.length * 4 + rest.length = c * 4 := by
  rcases h.2 with ⟨hv, hn⟩ | ⟨g, cap, cur, hv, hb, hg, hnc, hcm, hcs, ht⟩
  · omega
  · injection hv with e1 e2 e3
    subst e1 e3
    refine ⟨g, cur.toList.drop (ys.length * 4), rfl, hb, ?_, hcm, ?_⟩
    · rw [hg]
      have : rowN ys (cur.toList.drop (ys.length * 4)) = cur := by
        unfold rowN
        rw [← ht, List.take_append_drop]
      rw [this]
    · have := congrArg List.length ht
      rw [flN_len] at this
      simp at this ⊢
      omega
theorem RdN.of_own {w : World} {base : Nat} {E : TypeId} {A : Option Addr} {n c : Nat} {ys : List Spv} (h : w.ownsRow base E 4 (.slice A n c) n (flN ys)) : RdN w A ys := fun k x hk => by
  have hkl : k < ys.length := (List.getElem?_eq_some_iff.1 hk).1
  have hl : n = ys.length := by have := h.1; rw [flN_len] at this; omega
  subst hl
  obtain ⟨g, rest, rfl, _, hg, _⟩ := own_openN h (by omega)
  exact ⟨_, rfl, by rw [add_at]; exact celN_of hg hk⟩
theorem RdN.vals {w : World} {A : Option Addr} {xs : List Spv} (h : RdN w A xs) (j : Nat) (u : Value) (hj : (flN xs)[j]? = some u) : ∃ ad, A = some ad ∧ ∃ b o, (ad.add (j / 4 * 4)).block = b ∧ (ad.add (j / 4 * 4)).off = o ∧ (w.cell? (ad.add (j / 4 * 4)) = some u ∨ w.cell? ⟨b, o + j % 4, none⟩ = some u) := by
  have hjl : j < xs.length * 4 := by have := (List.getElem?_eq_some_iff.1 hj).1; rwa [flN_len] at this
  obtain ⟨x, hk⟩ : ∃ x, xs[j / 4]? = some x := ⟨xs[j / 4]'(by omega), List.getElem?_eq_getElem _⟩
  obtain ⟨ad, e, c⟩ := h _ x hk
  have h1 := flN_get xs _ x hk (j % 4) (by omega)
  rw [show j / 4 * 4 + j % 4 = j by omega, hj] at h1
  refine ⟨ad, e, _, _, rfl, rfl, ?_⟩
  rcases (show j % 4 = 0 ∨ j % 4 = 1 ∨ j % 4 = 2 ∨ j % 4 = 3 by omega) with hm | hm | hm | hm <;> rw [hm] at h1 ⊢
  · simp [cN] at h1; subst h1; exact .inl c.h0
  · simp [cN] at h1; subst h1; exact .inr c.h1
  · simp [cN] at h1; subst h1; exact .inr c.h2
  · simp [cN] at h1; subst h1; exact .inr c.h3
end Go.Proofs.YtkeflpcokcfcjaaDoor
