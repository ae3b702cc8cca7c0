/- Slices of structs of 10 cells (impl.Standard): written by gen_st.py. -/
import Derived.Test.YtadpoocafhddeaaDoorFm
namespace Go.Proofs.YtadpoocafhddeaaDoor
open Go.RowKit Go.Sort

structure Sdv where
  nm : ByteArray
  f : Int
  a : Int
  b : Int
  c : Int
  d : Int
  p : Int
  q : Int
  m : Int
  g : Int
abbrev vSd (x : Sdv) : Value := .agg #[.string x.nm, .int .i64 x.f, .int .i64 x.a, .int .i64 x.b, .int .i64 x.c, .int .i64 x.d, .int .i64 x.p, .int .i64 x.q, .int .i64 x.m, .int .i64 x.g]
def cSd (x : Sdv) : List Value := [.string x.nm, .int .i64 x.f, .int .i64 x.a, .int .i64 x.b, .int .i64 x.c, .int .i64 x.d, .int .i64 x.p, .int .i64 x.q, .int .i64 x.m, .int .i64 x.g]
def zSd : Sdv := ⟨.empty, 0, 0, 0, 0, 0, 0, 0, 0, 0⟩
instance inhSd : Inhabited Sdv := ⟨zSd⟩
theorem cSd_len (x : Sdv) : (cSd x).length = 10 := rfl
theorem cSd_one (x : Sdv) : ∀ u ∈ cSd x, u.oneCell' = true := by
  intro u hu
  simp only [cSd, List.mem_cons, List.not_mem_nil, or_false] at hu
  rcases hu with rfl | rfl | rfl | rfl | rfl | rfl | rfl | rfl | rfl | rfl <;> rfl
def flSd (xs : List Sdv) : List Value := xs.flatMap cSd
theorem flSd_cons (x : Sdv) (r : List Sdv) : flSd (x :: r) = cSd x ++ flSd r := by simp [flSd]
theorem flSd_app (xs : List Sdv) (x : Sdv) : flSd xs ++ cSd x = flSd (xs ++ [x]) := by simp [flSd]
theorem flSd_app2 (xs ys : List Sdv) : flSd (xs ++ ys) = flSd xs ++ flSd ys := by simp [flSd]
theorem flSd_len : ∀ xs : List Sdv, (flSd xs).length = xs.length * 10
  | [] => rfl
  | x :: r => by rw [flSd_cons, List.length_append, cSd_len, flSd_len r, List.length_cons]; omega
theorem flSd_one (xs : List Sdv) : ∀ u ∈ flSd xs, u.oneCell' = true := by
  intro u hu
  unfold flSd at hu
  simp only [List.mem_flatMap] at hu
  obtain ⟨x, _, hx⟩ := hu
  exact cSd_one x u hx
theorem flSd_get : ∀ (xs : List Sdv) (k : Nat) (x : Sdv), xs[k]? = some x → ∀ j, j < 10 → (flSd xs)[k * 10 + j]? = (cSd x)[j]?
  | [], k, x, h, _, _ => by simp at h
  | y :: r, 0, x, h, j, hj => by
    simp at h
    subst h
    rw [flSd_cons, Nat.zero_mul, Nat.zero_add, List.getElem?_append_left (by rw [cSd_len]; exact hj)]
  | y :: r, k + 1, x, h, j, hj => by
    rw [flSd_cons, List.getElem?_append_right (by rw [cSd_len]; omega), cSd_len, show (k + 1) * 10 + j - 10 = k * 10 + j by omega]
    exact flSd_get r k x (by simpa using h) j hj
/-- The cells of an element, put one after the other. -/
def putSd (l : List Value) (i : Nat) (x : Sdv) : List Value := (((((((((l.set i (.string x.nm)).set (i + 1) (.int .i64 x.f)).set (i + 2) (.int .i64 x.a)).set (i + 3) (.int .i64 x.b)).set (i + 4) (.int .i64 x.c)).set (i + 5) (.int .i64 x.d)).set (i + 6) (.int .i64 x.p)).set (i + 7) (.int .i64 x.q)).set (i + 8) (.int .i64 x.m)).set (i + 9) (.int .i64 x.g)
theorem putSd_app (p l : List Value) (i : Nat) (x : Sdv) (h : p.length = 10) : putSd (p ++ l) (i + 10) x = p ++ putSd l i x := by
  unfold putSd
  rw [List.set_append_right _ _ (by omega), show i + 10 - p.length = i by omega]
  rw [List.set_append_right _ _ (by omega), show i + 10 + 1 - p.length = i + 1 by omega]
  rw [List.set_append_right _ _ (by omega), show i + 10 + 2 - p.length = i + 2 by omega]
  rw [List.set_append_right _ _ (by omega), show i + 10 + 3 - p.length = i + 3 by omega]
  rw [List.set_append_right _ _ (by omega), show i + 10 + 4 - p.length = i + 4 by omega]
  rw [List.set_append_right _ _ (by omega), show i + 10 + 5 - p.length = i + 5 by omega]
  rw [List.set_append_right _ _ (by omega), show i + 10 + 6 - p.length = i + 6 by omega]
  rw [List.set_append_right _ _ (by omega), show i + 10 + 7 - p.length = i + 7 by omega]
  rw [List.set_append_right _ _ (by omega), show i + 10 + 8 - p.length = i + 8 by omega]
  rw [List.set_append_right _ _ (by omega), show i + 10 + 9 - p.length = i + 9 by omega]
theorem putSd_set : ∀ (xs : List Sdv) (k : Nat) (x : Sdv), k < xs.length → putSd (flSd xs) (k * 10) x = flSd (xs.set k x)
  | [], k, x, h => by simp at h
  | y :: r, 0, x, _ => by simp [flSd_cons, putSd, cSd]
  | y :: r, k + 1, x, h => by
    rw [flSd_cons, show (k + 1) * 10 = k * 10 + 10 by omega, putSd_app _ _ _ _ (cSd_len y), putSd_set r k x (by simpa using h), List.set_cons_succ, flSd_cons]
/-- A row: its elements, and what is spare. -/
def rowSd (ys : List Sdv) (rest : List Value) : Array Value := (flSd ys ++ rest).toArray
theorem rowSd_size (ys : List Sdv) (rest : List Value) : (rowSd ys rest).size = ys.length * 10 + rest.length := by simp [rowSd, flSd_len]
theorem rowSd_get {ys : List Sdv} {rest : List Value} {k : Nat} {x : Sdv} (h : ys[k]? = some x) (j : Nat) (hj : j < 10) : (rowSd ys rest)[k * 10 + j]? = (cSd x)[j]? := by
  have hk : k < ys.length := (List.getElem?_eq_some_iff.1 h).1
  unfold rowSd
  rw [List.getElem?_toArray, List.getElem?_append_left (by rw [flSd_len]; omega)]
  exact flSd_get ys k x h j hj
/-- The cells of an element at an address. -/
structure CelSd (w : World) (a : Addr) (x : Sdv) : Prop where
  h0 : w.cell? a = some (.string x.nm)
  h1 : w.cell? ⟨a.block, a.off + 1, none⟩ = some (.int .i64 x.f)
  h2 : w.cell? ⟨a.block, a.off + 2, none⟩ = some (.int .i64 x.a)
  h3 : w.cell? ⟨a.block, a.off + 3, none⟩ = some (.int .i64 x.b)
  h4 : w.cell? ⟨a.block, a.off + 4, none⟩ = some (.int .i64 x.c)
  h5 : w.cell? ⟨a.block, a.off + 5, none⟩ = some (.int .i64 x.d)
  h6 : w.cell? ⟨a.block, a.off + 6, none⟩ = some (.int .i64 x.p)
  h7 : w.cell? ⟨a.block, a.off + 7, none⟩ = some (.int .i64 x.q)
  h8 : w.cell? ⟨a.block, a.off + 8, none⟩ = some (.int .i64 x.m)
  h9 : w.cell? ⟨a.block, a.off + 9, none⟩ = some (.int .i64 x.g)
theorem CelSd.lt {w : World} {a : Addr} {x : Sdv} (h : CelSd w a x) : a.block < w.heap.size := World.block_lt_of_cell? _ _ h.h0
theorem CelSd.keep {w w' : World} {a : Addr} {x : Sdv} (h : CelSd w a x) (hg : Gr w w') : CelSd w' a x :=
  ⟨(hg.cellI (World.block_lt_of_cell? _ _ h.h0)).trans h.h0, (hg.cellI (World.block_lt_of_cell? _ _ h.h1)).trans h.h1, (hg.cellI (World.block_lt_of_cell? _ _ h.h2)).trans h.h2, (hg.cellI (World.block_lt_of_cell? _ _ h.h3)).trans h.h3, (hg.cellI (World.block_lt_of_cell? _ _ h.h4)).trans h.h4, (hg.cellI (World.block_lt_of_cell? _ _ h.h5)).trans h.h5, (hg.cellI (World.block_lt_of_cell? _ _ h.h6)).trans h.h6, (hg.cellI (World.block_lt_of_cell? _ _ h.h7)).trans h.h7, (hg.cellI (World.block_lt_of_cell? _ _ h.h8)).trans h.h8, (hg.cellI (World.block_lt_of_cell? _ _ h.h9)).trans h.h9⟩
theorem CelSd.only {w w' : World} {g : Nat} {a : Addr} {x : Sdv} (h : CelSd w a x) (o : Only g w w') (hne : a.block ≠ g) : CelSd w' a x :=
  ⟨o.keepI h.h0 hne, o.keepI h.h1 hne, o.keepI h.h2 hne, o.keepI h.h3 hne, o.keepI h.h4 hne, o.keepI h.h5 hne, o.keepI h.h6 hne, o.keepI h.h7 hne, o.keepI h.h8 hne, o.keepI h.h9 hne⟩
theorem CelSd.blk {w : World} {g k : Nat} {x : Sdv} (h : CelSd w ⟨g, k, none⟩ x) : w.cell? ⟨g, k, none⟩ = some (.string x.nm) ∧ w.cell? ⟨g, k + 1, none⟩ = some (.int .i64 x.f) ∧ w.cell? ⟨g, k + 2, none⟩ = some (.int .i64 x.a) ∧ w.cell? ⟨g, k + 3, none⟩ = some (.int .i64 x.b) ∧ w.cell? ⟨g, k + 4, none⟩ = some (.int .i64 x.c) ∧ w.cell? ⟨g, k + 5, none⟩ = some (.int .i64 x.d) ∧ w.cell? ⟨g, k + 6, none⟩ = some (.int .i64 x.p) ∧ w.cell? ⟨g, k + 7, none⟩ = some (.int .i64 x.q) ∧ w.cell? ⟨g, k + 8, none⟩ = some (.int .i64 x.m) ∧ w.cell? ⟨g, k + 9, none⟩ = some (.int .i64 x.g) :=
  ⟨h.h0, h.h1, h.h2, h.h3, h.h4, h.h5, h.h6, h.h7, h.h8, h.h9⟩
theorem celSd_of {w : World} {g k : Nat} {T : TypeId} {ys : List Sdv} {rest : List Value} {x : Sdv} (h : w.heap[g]? = some (.cells (rowSd ys rest) T)) (hk : ys[k]? = some x) : CelSd w ⟨g, k * 10, none⟩ x := by
  have hj := rowSd_get (rest := rest) hk
  refine ⟨?_, ?_, ?_, ?_, ?_, ?_, ?_, ?_, ?_, ?_⟩
  · have := hj 0 (by omega); simp only [World.cell?, h]; simpa [cSd] using this
  · have := hj 1 (by omega); simp only [World.cell?, h]; simpa [cSd] using this
  · have := hj 2 (by omega); simp only [World.cell?, h]; simpa [cSd] using this
  · have := hj 3 (by omega); simp only [World.cell?, h]; simpa [cSd] using this
  · have := hj 4 (by omega); simp only [World.cell?, h]; simpa [cSd] using this
  · have := hj 5 (by omega); simp only [World.cell?, h]; simpa [cSd] using this
  · have := hj 6 (by omega); simp only [World.cell?, h]; simpa [cSd] using this
  · have := hj 7 (by omega); simp only [World.cell?, h]; simpa [cSd] using this
  · have := hj 8 (by omega); simp only [World.cell?, h]; simpa [cSd] using this
  · have := hj 9 (by omega); simp only [World.cell?, h]; simpa [cSd] using this
/-- A slice of the laws' elements, as it came in. -/
def RawSd (w : World) (v : Value) (xs : List Sdv) : Prop :=
  (v = .slice none 0 0 ∧ xs = []) ∨ ∃ (ad : Addr) (cap : Nat), v = .slice (some ad) xs.length cap ∧ ∀ (k : Nat) (x : Sdv), xs[k]? = some x → CelSd w (ad.add (k * 10)) x
theorem RawSd.keep {w w' : World} {v : Value} {xs : List Sdv} (h : RawSd w v xs) (hg : Gr w w') : RawSd w' v xs := by
  rcases h with h | ⟨ad, cap, h1, h3⟩
  · exact .inl h
  · exact .inr ⟨ad, cap, h1, fun k x hk => (h3 k x hk).keep hg⟩
/-- A slice that reads as these elements. -/
def RdSd (w : World) (A : Option Addr) (xs : List Sdv) : Prop := ∀ (k : Nat) (x : Sdv), xs[k]? = some x → ∃ ad, A = some ad ∧ CelSd w (ad.add (k * 10)) x
theorem RdSd.keep {w w' : World} {A : Option Addr} {xs : List Sdv} (h : RdSd w A xs) (hg : Gr w w') : RdSd w' A xs := fun k x hk => by
  obtain ⟨ad, e, c⟩ := h k x hk
  exact ⟨ad, e, c.keep hg⟩
theorem RdSd.only {w w' : World} {g : Nat} {A : Option Addr} {xs : List Sdv} (h : RdSd w A xs) (o : Only g w w') (hne : ∀ ad, A = some ad → ad.block ≠ g) : RdSd w' A xs := fun k x hk => by
  obtain ⟨ad, e, c⟩ := h k x hk
  exact ⟨ad, e, c.only o (by rw [addI_block]; exact hne ad e)⟩
theorem RdSd.of_block {w : World} {g : Nat} {T : TypeId} {xs : List Sdv} {rest : List Value} (h : w.heap[g]? = some (.cells (rowSd xs rest) T)) : RdSd w (some ⟨g, 0, none⟩) xs := fun k x hk =>
  ⟨_, rfl, by rw [add_at]; exact celSd_of h hk⟩
theorem RdSd.nil (w : World) (A : Option Addr) : RdSd w A [] := fun k x hk => by simp at hk
theorem rowSd_put (ys : List Sdv) (rest : List Value) (k : Nat) (x : Sdv) (h : k < ys.length) : ((((((((((rowSd ys rest).setIfInBounds (k * 10) (.string x.nm)).setIfInBounds (k * 10 + 1) (.int .i64 x.f)).setIfInBounds (k * 10 + 2) (.int .i64 x.a)).setIfInBounds (k * 10 + 3) (.int .i64 x.b)).setIfInBounds (k * 10 + 4) (.int .i64 x.c)).setIfInBounds (k * 10 + 5) (.int .i64 x.d)).setIfInBounds (k * 10 + 6) (.int .i64 x.p)).setIfInBounds (k * 10 + 7) (.int .i64 x.q)).setIfInBounds (k * 10 + 8) (.int .i64 x.m)).setIfInBounds (k * 10 + 9) (.int .i64 x.g) = rowSd (ys.set k x) rest := by
  have e : putSd (flSd ys ++ rest) (k * 10) x = flSd (ys.set k x) ++ rest := by
    rw [← putSd_set ys k x h]
    have hl := flSd_len ys
    unfold putSd
    rw [List.set_append_left _ _ (by omega), List.set_append_left _ _ (by simp only [List.length_set]; omega), List.set_append_left _ _ (by simp only [List.length_set]; omega), List.set_append_left _ _ (by simp only [List.length_set]; omega), List.set_append_left _ _ (by simp only [List.length_set]; omega), List.set_append_left _ _ (by simp only [List.length_set]; omega), List.set_append_left _ _ (by simp only [List.length_set]; omega), List.set_append_left _ _ (by simp only [List.length_set]; omega), List.set_append_left _ _ (by simp only [List.length_set]; omega), List.set_append_left _ _ (by simp only [List.length_set]; omega)]
  unfold putSd at e
  unfold rowSd
  rw [← e]
  simp only [List.setIfInBounds_toArray]
theorem storeSd {w : World} {g k : Nat} {T : TypeId} {ys : List Sdv} {rest : List Value} (x : Sdv) (h : w.heap[g]? = some (.cells (rowSd ys rest) T)) (hk : k < ys.length) :
    ((((((((((w.setCell ⟨g, k * 10, none⟩ (.string x.nm)).setCell ⟨g, k * 10 + 1, none⟩ (.int .i64 x.f)).setCell ⟨g, k * 10 + 2, none⟩ (.int .i64 x.a)).setCell ⟨g, k * 10 + 3, none⟩ (.int .i64 x.b)).setCell ⟨g, k * 10 + 4, none⟩ (.int .i64 x.c)).setCell ⟨g, k * 10 + 5, none⟩ (.int .i64 x.d)).setCell ⟨g, k * 10 + 6, none⟩ (.int .i64 x.p)).setCell ⟨g, k * 10 + 7, none⟩ (.int .i64 x.q)).setCell ⟨g, k * 10 + 8, none⟩ (.int .i64 x.m)).setCell ⟨g, k * 10 + 9, none⟩ (.int .i64 x.g)).heap[g]? = some (.cells (rowSd (ys.set k x) rest) T) := by
  have e0 := Joins.block_setCell (i := k * 10) h (.string x.nm)
  have e1 := Joins.block_setCell (i := k * 10 + 1) e0 (.int .i64 x.f)
  have e2 := Joins.block_setCell (i := k * 10 + 2) e1 (.int .i64 x.a)
  have e3 := Joins.block_setCell (i := k * 10 + 3) e2 (.int .i64 x.b)
  have e4 := Joins.block_setCell (i := k * 10 + 4) e3 (.int .i64 x.c)
  have e5 := Joins.block_setCell (i := k * 10 + 5) e4 (.int .i64 x.d)
  have e6 := Joins.block_setCell (i := k * 10 + 6) e5 (.int .i64 x.p)
  have e7 := Joins.block_setCell (i := k * 10 + 7) e6 (.int .i64 x.q)
  have e8 := Joins.block_setCell (i := k * 10 + 8) e7 (.int .i64 x.m)
  have e9 := Joins.block_setCell (i := k * 10 + 9) e8 (.int .i64 x.g)
  rw [rowSd_put ys rest k x hk] at e9
  exact e9
theorem madeSd (n : Nat) : madeCells #[.string .empty, .int .i64 0, .int .i64 0, .int .i64 0, .int .i64 0, .int .i64 0, .int .i64 0, .int .i64 0, .int .i64 0, .int .i64 0] (n * 10) = rowSd (List.replicate n zSd) [] := by
  refine Array.ext_getElem? fun i => ?_
  by_cases hi : i < n * 10
  · have hk : (List.replicate n zSd)[i / 10]? = some zSd := by rw [List.getElem?_replicate, if_pos (by omega)]
    have h2 := rowSd_get (rest := []) hk (i % 10) (by omega)
    rw [show i / 10 * 10 + i % 10 = i by omega] at h2
    rw [h2]
    unfold madeCells
    have hm : i % 10 < 10 := by omega
    simp only [cSd, zSd]
    rcases (show i % 10 = 0 ∨ i % 10 = 1 ∨ i % 10 = 2 ∨ i % 10 = 3 ∨ i % 10 = 4 ∨ i % 10 = 5 ∨ i % 10 = 6 ∨ i % 10 = 7 ∨ i % 10 = 8 ∨ i % 10 = 9 by omega) with h | h | h | h | h | h | h | h | h | h <;> simp [hi, h]
  · rw [Array.getElem?_eq_none (by rw [size_madeCells]; omega), Array.getElem?_eq_none (by simp [rowSd_size]; omega)]
theorem takeSd_step {xs : List Sdv} {k : Nat} {x : Sdv} (h : xs[k]? = some x) :
    (xs.take k ++ List.replicate (xs.length - k) zSd).set k x = xs.take (k + 1) ++ List.replicate (xs.length - (k + 1)) zSd := by
  have hk : k < xs.length := (List.getElem?_eq_some_iff.1 h).1
  have hl : (xs.take k).length = k := by simp; omega
  rw [List.set_append_right _ _ (by omega), hl, Nat.sub_self]
  rw [show xs.length - k = (xs.length - (k + 1)) + 1 by omega, List.replicate_succ, List.set_cons_zero]
  rw [List.take_add_one, h]
  simp
theorem takeSd_get {xs : List Sdv} {k : Nat} (hk : k < xs.length) : (xs.take k ++ List.replicate (xs.length - k) zSd)[k]? = some zSd := by
  have hl : (xs.take k).length = k := by simp; omega
  rw [List.getElem?_append_right (by omega), hl, Nat.sub_self, List.getElem?_replicate, if_pos (by omega)]
theorem takeSd_len {xs : List Sdv} {k : Nat} (hk : k < xs.length) : (xs.take k ++ List.replicate (xs.length - k) zSd).length = xs.length := by simp; omega
set_option maxRecDepth 100000 in
theorem makeSd (n : Nat) (hn : n ≤ 1048576) (w : World) :
    (Instr.makeSlice 26 (.int .i64 (n : Int)) (.int .i64 (n : Int))).run Tryd.prog w = .ok (.slice (some ⟨w.heap.size, 0, none⟩) n n) (w.alloc (.cells (rowSd (List.replicate n zSd) []) 54)) := by
  obtain ⟨i, hi, hz, hs, hb⟩ : ∃ i, Tryd.prog.info? 54 = some i ∧ i.zero = some (vSd zSd) ∧ i.size = 10 ∧ i.bytes = 88 := ⟨_, rfl, rfl, rfl, rfl⟩
  have h := run_make (P := Tryd.prog) w 26 54 i (vSd zSd) Tryd.underlying26 hi hz .i64 .i64 n n (by omega) (Int.le_refl _) (by rw [hb]; omega) (by omega)
  rw [hs] at h
  simp only [Int.toNat_natCast] at h
  rw [h, ← madeSd]
  rfl
/-! rows of the call's own -/
theorem own_openSd {w : World} {base : Nat} {E : TypeId} {A : Option Addr} {c : Nat} {ys : List Sdv} (h : w.ownsRow base E 10 (.slice A ys.length c) ys.length (flSd ys)) (h0 : 0 < ys.length) :
    ∃ g rest, A = some ⟨g, 0, none⟩ ∧ base ≤ g ∧ w.heap[g]? = some (.cells (rowSd ys rest) E) ∧ c ≤ maxLen ∧ ys.length * 10 + rest.length = c * 10 := by
  rcases h.2 with ⟨hv, hn⟩ | ⟨g, cap, cur, hv, hb, hg, hnc, hcm, hcs, ht⟩
  · omega
  · injection hv with e1 e2 e3
    subst e1 e3
    refine ⟨g, cur.toList.drop (ys.length * 10), rfl, hb, ?_, hcm, ?_⟩
    · rw [hg]
      have : rowSd ys (cur.toList.drop (ys.length * 10)) = cur := by
        unfold rowSd
        rw [← ht, List.take_append_drop]
      rw [this]
    · have := congrArg List.length ht
      rw [flSd_len] at this
      simp at this ⊢
      omega
theorem RdSd.of_own {w : World} {base : Nat} {E : TypeId} {A : Option Addr} {n c : Nat} {ys : List Sdv} (h : w.ownsRow base E 10 (.slice A n c) n (flSd ys)) : RdSd w A ys := fun k x hk => by
  have hkl : k < ys.length := (List.getElem?_eq_some_iff.1 hk).1
  have hl : n = ys.length := by have := h.1; rw [flSd_len] at this; omega
  subst hl
  obtain ⟨g, rest, rfl, _, hg, _⟩ := own_openSd h (by omega)
  exact ⟨_, rfl, by rw [add_at]; exact celSd_of hg hk⟩
theorem RdSd.vals {w : World} {A : Option Addr} {xs : List Sdv} (h : RdSd w A xs) (j : Nat) (u : Value) (hj : (flSd xs)[j]? = some u) : ∃ ad, A = some ad ∧ ∃ b o, (ad.add (j / 10 * 10)).block = b ∧ (ad.add (j / 10 * 10)).off = o ∧ (w.cell? (ad.add (j / 10 * 10)) = some u ∨ w.cell? ⟨b, o + j % 10, none⟩ = some u) := by
  have hjl : j < xs.length * 10 := by have := (List.getElem?_eq_some_iff.1 hj).1; rwa [flSd_len] at this
  obtain ⟨x, hk⟩ : ∃ x, xs[j / 10]? = some x := ⟨xs[j / 10]'(by omega), List.getElem?_eq_getElem _⟩
  obtain ⟨ad, e, c⟩ := h _ x hk
  have h1 := flSd_get xs _ x hk (j % 10) (by omega)
  rw [show j / 10 * 10 + j % 10 = j by omega, hj] at h1
  refine ⟨ad, e, _, _, rfl, rfl, ?_⟩
  rcases (show j % 10 = 0 ∨ j % 10 = 1 ∨ j % 10 = 2 ∨ j % 10 = 3 ∨ j % 10 = 4 ∨ j % 10 = 5 ∨ j % 10 = 6 ∨ j % 10 = 7 ∨ j % 10 = 8 ∨ j % 10 = 9 by omega) with hm | hm | hm | hm | hm | hm | hm | hm | hm | hm <;> rw [hm] at h1 ⊢
  · simp [cSd] at h1; subst h1; exact .inl c.h0
  · simp [cSd] at h1; subst h1; exact .inr c.h1
  · simp [cSd] at h1; subst h1; exact .inr c.h2
  · simp [cSd] at h1; subst h1; exact .inr c.h3
  · simp [cSd] at h1; subst h1; exact .inr c.h4
  · simp [cSd] at h1; subst h1; exact .inr c.h5
  · simp [cSd] at h1; subst h1; exact .inr c.h6
  · simp [cSd] at h1; subst h1; exact .inr c.h7
  · simp [cSd] at h1; subst h1; exact .inr c.h8
  · simp [cSd] at h1; subst h1; exact .inr c.h9
end Go.Proofs.YtadpoocafhddeaaDoor
