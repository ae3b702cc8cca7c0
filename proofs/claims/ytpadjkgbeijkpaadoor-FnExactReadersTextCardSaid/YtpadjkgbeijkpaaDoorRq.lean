/- Slices of structs of 4 cells (impl.Reader): written by gen_st.py. -/
import Derived.Test.YtpadjkgbeijkpaaDoorFm
namespace Go.Proofs.YtpadjkgbeijkpaaDoor
open Go.RowKit Go.Sort

structure Rqv where
  nm : ByteArray
  b : Int
  u : Int
  o : Bool
abbrev vRq (x : Rqv) : Value := .agg #[.string x.nm, .int .i16 x.b, .int .i16 x.u, .bool x.o]
def cRq (x : Rqv) : List Value := [.string x.nm, .int .i16 x.b, .int .i16 x.u, .bool x.o]
def zRq : Rqv := ⟨.empty, 0, 0, false⟩
instance inhRq : Inhabited Rqv := ⟨zRq⟩
theorem cRq_len (x : Rqv) : (cRq x).length = 4 := rfl
theorem cRq_one (x : Rqv) : ∀ u ∈ cRq x, u.oneCell' = true := by
  intro u hu
  simp only [cRq, List.mem_cons, List.not_mem_nil, or_false] at hu
  rcases hu with rfl | rfl | rfl | rfl <;> rfl
def flRq (xs : List Rqv) : List Value := xs.flatMap cRq
theorem flRq_cons (x : Rqv) (r : List Rqv) : flRq (x :: r) = cRq x ++ flRq r := by simp [flRq]
theorem flRq_app (xs : List Rqv) (x : Rqv) : flRq xs ++ cRq x = flRq (xs ++ [x]) := by simp [flRq]
theorem flRq_app2 (xs ys : List Rqv) : flRq (xs ++ ys) = flRq xs ++ flRq ys := by simp [flRq]
theorem flRq_len : ∀ xs : List Rqv, (flRq xs).length = xs.length * 4
  | [] => rfl
  | x :: r => by rw [flRq_cons, List.length_append, cRq_len, flRq_len r, List.length_cons]; omega
theorem flRq_one (xs : List Rqv) : ∀ u ∈ flRq xs, u.oneCell' = true := by
  intro u hu
  unfold flRq at hu
  simp only [List.mem_flatMap] at hu
  obtain ⟨x, _, hx⟩ := hu
  exact cRq_one x u hx
theorem flRq_get : ∀ (xs : List Rqv) (k : Nat) (x : Rqv), xs[k]? = some x → ∀ j, j < 4 → (flRq xs)[k * 4 + j]? = (cRq x)[j]?
  | [], k, x, h, _, _ => by simp at h
  | y :: r, 0, x, h, j, hj => by
    simp at h
    subst h
    rw [flRq_cons, Nat.zero_mul, Nat.zero_add, List.getElem?_append_left (by rw [cRq_len]; exact hj)]
  | y :: r, k + 1, x, h, j, hj => by
    rw [flRq_cons, List.getElem?_append_right (by rw [cRq_len]; omega), cRq_len, show (k + 1) * 4 + j - 4 = k * 4 + j by omega]
    exact flRq_get r k x (by simpa using h) j hj
/-- The cells of an element, put one after the other. -/
def putRq (l : List Value) (i : Nat) (x : Rqv) : List Value := (((l.set i (.string x.nm)).set (i + 1) (.int .i16 x.b)).set (i + 2) (.int .i16 x.u)).set (i + 3) (.bool x.o)
theorem putRq_app (p l : List Value) (i : Nat) (x : Rqv) (h : p.length = 4) : putRq (p ++ l) (i + 4) x = p ++ putRq l i x := by
  unfold putRq
  rw [List.set_append_right _ _ (by omega), show i + 4 - p.length = i by omega]
  rw [List.set_append_right _ _ (by omega), show i + 4 + 1 - p.length = i + 1 by omega]
  rw [List.set_append_right _ _ (by omega), show i + 4 + 2 - p.length = i + 2 by omega]
  rw [List.set_append_right _ _ (by omega), show i + 4 + 3 - p.length = i + 3 by omega]
theorem putRq_set : ∀ (xs : List Rqv) (k : Nat) (x : Rqv), k < xs.length → putRq (flRq xs) (k * 4) x = flRq (xs.set k x)
  | [], k, x, h => by simp at h
  | y :: r, 0, x, _ => by simp [flRq_cons, putRq, cRq]
  | y :: r, k + 1, x, h => by
    rw [flRq_cons, show (k + 1) * 4 = k * 4 + 4 by omega, putRq_app _ _ _ _ (cRq_len y), putRq_set r k x (by simpa using h), List.set_cons_succ, flRq_cons]
/-- A row: its elements, and what is spare. -/
def rowRq (ys : List Rqv) (rest : List Value) : Array Value := (flRq ys ++ rest).toArray
theorem rowRq_size (ys : List Rqv) (rest : List Value) : (rowRq ys rest).size = ys.length * 4 + rest.length := by simp [rowRq, flRq_len]
theorem rowRq_get {ys : List Rqv} {rest : List Value} {k : Nat} {x : Rqv} (h : ys[k]? = some x) (j : Nat) (hj : j < 4) : (rowRq ys rest)[k * 4 + j]? = (cRq x)[j]? := by
  have hk : k < ys.length := (List.getElem?_eq_some_iff.1 h).1
  unfold rowRq
  rw [List.getElem?_toArray, List.getElem?_append_left (by rw [flRq_len]; omega)]
  exact flRq_get ys k x h j hj
/-- The cells of an element at an address. -/
structure CelRq (w : World) (a : Addr) (x : Rqv) : Prop where
  h0 : w.cell? a = some (.string x.nm)
  h1 : w.cell? ⟨a.block, a.off + 1, none⟩ = some (.int .i16 x.b)
  h2 : w.cell? ⟨a.block, a.off + 2, none⟩ = some (.int .i16 x.u)
  h3 : w.cell? ⟨a.block, a.off + 3, none⟩ = some (.bool x.o)
theorem CelRq.lt {w : World} {a : Addr} {x : Rqv} (h : CelRq w a x) : a.block < w.heap.size := World.block_lt_of_cell? _ _ h.h0
theorem CelRq.keep {w w' : World} {a : Addr} {x : Rqv} (h : CelRq w a x) (hg : Gr w w') : CelRq w' a x :=
  ⟨(hg.cellI (World.block_lt_of_cell? _ _ h.h0)).trans h.h0, (hg.cellI (World.block_lt_of_cell? _ _ h.h1)).trans h.h1, (hg.cellI (World.block_lt_of_cell? _ _ h.h2)).trans h.h2, (hg.cellI (World.block_lt_of_cell? _ _ h.h3)).trans h.h3⟩
theorem CelRq.only {w w' : World} {g : Nat} {a : Addr} {x : Rqv} (h : CelRq w a x) (o : Only g w w') (hne : a.block ≠ g) : CelRq w' a x :=
  ⟨o.keepI h.h0 hne, o.keepI h.h1 hne, o.keepI h.h2 hne, o.keepI h.h3 hne⟩
theorem CelRq.blk {w : World} {g k : Nat} {x : Rqv} (h : CelRq w ⟨g, k, none⟩ x) : w.cell? ⟨g, k, none⟩ = some (.string x.nm) ∧ w.cell? ⟨g, k + 1, none⟩ = some (.int .i16 x.b) ∧ w.cell? ⟨g, k + 2, none⟩ = some (.int .i16 x.u) ∧ w.cell? ⟨g, k + 3, none⟩ = some (.bool x.o) :=
  ⟨h.h0, h.h1, h.h2, h.h3⟩
theorem celRq_of {w : World} {g k : Nat} {T : TypeId} {ys : List Rqv} {rest : List Value} {x : Rqv} (h : w.heap[g]? = some (.cells (rowRq ys rest) T)) (hk : ys[k]? = some x) : CelRq w ⟨g, k * 4, none⟩ x := by
  have hj := rowRq_get (rest := rest) hk
  refine ⟨?_, ?_, ?_, ?_⟩
  · have := hj 0 (by omega); simp only [World.cell?, h]; simpa [cRq] using this
  · have := hj 1 (by omega); simp only [World.cell?, h]; simpa [cRq] using this
  · have := hj 2 (by omega); simp only [World.cell?, h]; simpa [cRq] using this
  · have := hj 3 (by omega); simp only [World.cell?, h]; simpa [cRq] using this
/-- A slice of the laws' elements, as it came in. -/
def RawRq (w : World) (v : Value) (xs : List Rqv) : Prop :=
  (v = .slice none 0 0 ∧ xs = []) ∨ ∃ (ad : Addr) (cap : Nat), v = .slice (some ad) xs.length cap ∧ ∀ (k : Nat) (x : Rqv), xs[k]? = some x → CelRq w (ad.add (k * 4)) x
theorem RawRq.keep {w w' : World} {v : Value} {xs : List Rqv} (h : RawRq w v xs) (hg : Gr w w') : RawRq w' v xs := by
  rcases h with h | ⟨ad, cap, h1, h3⟩
  · exact .inl h
  · exact .inr ⟨ad, cap, h1, fun k x hk => (h3 k x hk).keep hg⟩
/-- A slice that reads as these elements. -/
def RdRq (w : World) (A : Option Addr) (xs : List Rqv) : Prop := ∀ (k : Nat) (x : Rqv), xs[k]? = some x → ∃ ad, A = some ad ∧ CelRq w (ad.add (k * 4)) x
theorem RdRq.keep {w w' : World} {A : Option Addr} {xs : List Rqv} (h : RdRq w A xs) (hg : Gr w w') : RdRq w' A xs := fun k x hk => by
  obtain ⟨ad, e, c⟩ := h k x hk
  exact ⟨ad, e, c.keep hg⟩
theorem RdRq.only {w w' : World} {g : Nat} {A : Option Addr} {xs : List Rqv} (h : RdRq w A xs) (o : Only g w w') (hne : ∀ ad, A = some ad → ad.block ≠ g) : RdRq w' A xs := fun k x hk => by
  obtain ⟨ad, e, c⟩ := h k x hk
  exact ⟨ad, e, c.only o (by rw [addI_block]; exact hne ad e)⟩
theorem RdRq.of_block {w : World} {g : Nat} {T : TypeId} {xs : List Rqv} {rest : List Value} (h : w.heap[g]? = some (.cells (rowRq xs rest) T)) : RdRq w (some ⟨g, 0, none⟩) xs := fun k x hk =>
  ⟨_, rfl, by rw [add_at]; exact celRq_of h hk⟩
theorem RdRq.nil (w : World) (A : Option Addr) : RdRq w A [] := fun k x hk => by simp at hk
theorem rowRq_put (ys : List Rqv) (rest : List Value) (k : Nat) (x : Rqv) (h : k < ys.length) : ((((rowRq ys rest).setIfInBounds (k * 4) (.string x.nm)).setIfInBounds (k * 4 + 1) (.int .i16 x.b)).setIfInBounds (k * 4 + 2) (.int .i16 x.u)).setIfInBounds (k * 4 + 3) (.bool x.o) = rowRq (ys.set k x) rest := by
  have e : putRq (flRq ys ++ rest) (k * 4) x = flRq (ys.set k x) ++ rest := by
    rw [← putRq_set ys k x h]
    have hl := flRq_len ys
    unfold putRq
    rw [List.set_append_left _ _ (by omega), List.set_append_left _ _ (by simp only [List.length_set]; omega), List.set_append_left _ _ (by simp only [List.length_set]; omega), List.set_append_left _ _ (by simp only [List.length_set]; omega)]
  unfold putRq at e
  unfold rowRq
  rw [← e]
  simp only [List.setIfInBounds_toArray]
theorem storeRq {w : World} {g k : Nat} {T : TypeId} {ys : List Rqv} {rest : List Value} (x : Rqv) (h : w.heap[g]? = some (.cells (rowRq ys rest) T)) (hk : k < ys.length) :
    ((((w.setCell ⟨g, k * 4, none⟩ (.string x.nm)).setCell ⟨g, k * 4 + 1, none⟩ (.int .i16 x.b)).setCell ⟨g, k * 4 + 2, none⟩ (.int .i16 x.u)).setCell ⟨g, k * 4 + 3, none⟩ (.bool x.o)).heap[g]? = some (.cells (rowRq (ys.set k x) rest) T) := by
  have e0 := Joins.block_setCell (i := k * 4) h (.string x.nm)
  have e1 := Joins.block_setCell (i := k * 4 + 1) e0 (.int .i16 x.b)
  have e2 := Joins.block_setCell (i := k * 4 + 2) e1 (.int .i16 x.u)
  have e3 := Joins.block_setCell (i := k * 4 + 3) e2 (.bool x.o)
  rw [rowRq_put ys rest k x hk] at e3
  exact e3
theorem madeRq (n : Nat) : madeCells #[.string .empty, .int .i16 0, .int .i16 0, .bool false] (n * 4) = rowRq (List.replicate n zRq) [] := by
  refine Array.ext_getElem? fun i => ?_
  by_cases hi : i < n * 4
  · have hk : (List.replicate n zRq)[i / 4]? = some zRq := by rw [List.getElem?_replicate, if_pos (by omega)]
    have h2 := rowRq_get (rest := []) hk (i % 4) (by omega)
    rw [show i / 4 * 4 + i % 4 = i by omega] at h2
    rw [h2]
    unfold madeCells
    have hm : i % 4 < 4 := by omega
    simp only [cRq, zRq]
    rcases (show i % 4 = 0 ∨ i % 4 = 1 ∨ i % 4 = 2 ∨ i % 4 = 3 by omega) with h | h | h | h <;> simp [hi, h]
  · rw [Array.getElem?_eq_none (by rw [size_madeCells]; omega), Array.getElem?_eq_none (by simp [rowRq_size]; omega)]
theorem takeRq_step {xs : List Rqv} {k : Nat} {x : Rqv} (h : xs[k]? = some x) :
    (xs.take k ++ List.replicate (xs.length - k) zRq).set k x = xs.take (k + 1) ++ List.replicate (xs.length - (k + 1)) zRq := by
  have hk : k < xs.length := (List.getElem?_eq_some_iff.1 h).1
  have hl : (xs.take k).length = k := by simp; omega
  rw [List.set_append_right _ _ (by omega), hl, Nat.sub_self]
  rw [show xs.length - k = (xs.length - (k + 1)) + 1 by omega, List.replicate_succ, List.set_cons_zero]
  rw [List.take_add_one, h]
  simp
theorem takeRq_get {xs : List Rqv} {k : Nat} (hk : k < xs.length) : (xs.take k ++ List.replicate (xs.length - k) zRq)[k]? = some zRq := by
  have hl : (xs.take k).length = k := by simp; omega
  rw [List.getElem?_append_right (by omega), hl, Nat.sub_self, List.getElem?_replicate, if_pos (by omega)]
theorem takeRq_len {xs : List Rqv} {k : Nat} (hk : k < xs.length) : (xs.take k ++ List.replicate (xs.length - k) zRq).length = xs.length := by simp; omega
set_option maxRecDepth 100000 in
theorem makeRq (n : Nat) (hn : n ≤ 1048576) (w : World) :
    (Instr.makeSlice 61 (.int .i64 (n : Int)) (.int .i64 (n : Int))).run Tryd.prog w = .ok (.slice (some ⟨w.heap.size, 0, none⟩) n n) (w.alloc (.cells (rowRq (List.replicate n zRq) []) 116)) := by
  obtain ⟨i, hi, hz, hs, hb⟩ : ∃ i, Tryd.prog.info? 116 = some i ∧ i.zero = some (vRq zRq) ∧ i.size = 4 ∧ i.bytes = 24 := ⟨_, rfl, rfl, rfl, rfl⟩
  have h := run_make (P := Tryd.prog) w 61 116 i (vRq zRq) Tryd.underlying61 hi hz .i64 .i64 n n (by omega) (Int.le_refl _) (by rw [hb]; omega) (by omega)
  rw [hs] at h
  simp only [Int.toNat_natCast] at h
  rw [h, ← madeRq]
  rfl
/-! rows of the call's own -/
theorem own_openRq {w : World} {base : Nat} {E : TypeId} {A : Option Addr} {c : Nat} {ys : List Rqv} (h : w.ownsRow base E 4 (.slice A ys.length c) ys.length (flRq ys)) (h0 : 0 < ys.length) :
    ∃ g rest, A = some ⟨g, 0, none⟩ ∧ base ≤ g ∧ w.heap[g]? = some (.cells (rowRq ys rest) E) ∧ c ≤ maxLen ∧ ys.length * 4 + rest.length = c * 4 := by
  rcases h.2 with ⟨hv, hn⟩ | ⟨g, cap, cur, hv, hb, hg, hnc, hcm, hcs, ht⟩
  · omega
  · injection hv with e1 e2 e3
    subst e1 e3
    refine ⟨g, cur.toList.drop (ys.length * 4), rfl, hb, ?_, hcm, ?_⟩
    · rw [hg]
      have : rowRq ys (cur.toList.drop (ys.length * 4)) = cur := by
        unfold rowRq
        rw [← ht, List.take_append_drop]
      rw [this]
    · have := congrArg List.length ht
      rw [flRq_len] at this
      simp at this ⊢
      omega
theorem RdRq.of_own {w : World} {base : Nat} {E : TypeId} {A : Option Addr} {n c : Nat} {ys : List Rqv} (h : w.ownsRow base E 4 (.slice A n c) n (flRq ys)) : RdRq w A ys := fun k x hk => by
  have hkl : k < ys.length := (List.getElem?_eq_some_iff.1 hk).1
  have hl : n = ys.length := by have := h.1; rw [flRq_len] at this; omega
  subst hl
  obtain ⟨g, rest, rfl, _, hg, _⟩ := own_openRq h (by omega)
  exact ⟨_, rfl, by rw [add_at]; exact celRq_of hg hk⟩
theorem RdRq.vals {w : World} {A : Option Addr} {xs : List Rqv} (h : RdRq w A xs) (j : Nat) (u : Value) (hj : (flRq xs)[j]? = some u) : ∃ ad, A = some ad ∧ ∃ b o, (ad.add (j / 4 * 4)).block = b ∧ (ad.add (j / 4 * 4)).off = o ∧ (w.cell? (ad.add (j / 4 * 4)) = some u ∨ w.cell? ⟨b, o + j % 4, none⟩ = some u) := by
  have hjl : j < xs.length * 4 := by have := (List.getElem?_eq_some_iff.1 hj).1; rwa [flRq_len] at this
  obtain ⟨x, hk⟩ : ∃ x, xs[j / 4]? = some x := ⟨xs[j / 4]'(by omega), List.getElem?_eq_getElem _⟩
  obtain ⟨ad, e, c⟩ := h _ x hk
  have h1 := flRq_get xs _ x hk (j % 4) (by omega)
  rw [show j / 4 * 4 + j % 4 = j by omega, hj] at h1
  refine ⟨ad, e, _, _, rfl, rfl, ?_⟩
  rcases (show j % 4 = 0 ∨ j % 4 = 1 ∨ j % 4 = 2 ∨ j % 4 = 3 by omega) with hm | hm | hm | hm <;> rw [hm] at h1 ⊢
  · simp [cRq] at h1; subst h1; exact .inl c.h0
  · simp [cRq] at h1; subst h1; exact .inr c.h1
  · simp [cRq] at h1; subst h1; exact .inr c.h2
  · simp [cRq] at h1; subst h1; exact .inr c.h3
end Go.Proofs.YtpadjkgbeijkpaaDoor
