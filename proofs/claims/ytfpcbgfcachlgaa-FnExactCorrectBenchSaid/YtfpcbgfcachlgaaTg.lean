/- Slices of structs of 5 cells (impl.Thing): written by gen_st.py. -/
import Derived.Test.YtfpcbgfcachlgaaFm
namespace Go.Proofs.Ytfpcbgfcachlgaa
open Go.RowKit Go.Sort

structure Tgv where
  nm : ByteArray
  p : Int
  q : Int
  a : Int
  b : Int
abbrev vTg (x : Tgv) : Value := .agg #[.string x.nm, .int .i64 x.p, .int .i64 x.q, .int .i64 x.a, .int .i64 x.b]
def cTg (x : Tgv) : List Value := [.string x.nm, .int .i64 x.p, .int .i64 x.q, .int .i64 x.a, .int .i64 x.b]
def zTg : Tgv := ⟨.empty, 0, 0, 0, 0⟩
instance inhTg : Inhabited Tgv := ⟨zTg⟩
theorem cTg_len (x : Tgv) : (cTg x).length = 5 := rfl
theorem cTg_one (x : Tgv) : ∀ u ∈ cTg x, u.oneCell' = true := by
  intro u hu
  simp only [cTg, List.mem_cons, List.not_mem_nil, or_false] at hu
  rcases hu with rfl | rfl | rfl | rfl | rfl <;> rfl
def flTg (xs : List Tgv) : List Value := xs.flatMap cTg
theorem flTg_cons (x : Tgv) (r : List Tgv) : flTg (x :: r) = cTg x ++ flTg r := by simp [flTg]
theorem flTg_app (xs : List Tgv) (x : Tgv) : flTg xs ++ cTg x = flTg (xs ++ [x]) := by simp [flTg]
theorem flTg_app2 (xs ys : List Tgv) : flTg (xs ++ ys) = flTg xs ++ flTg ys := by simp [flTg]
theorem flTg_len : ∀ xs : List Tgv, (flTg xs).length = xs.length * 5
  | [] => rfl
  | x :: r => by rw [flTg_cons, List.length_append, cTg_len, flTg_len r, List.length_cons]; omega
theorem flTg_one (xs : List Tgv) : ∀ u ∈ flTg xs, u.oneCell' = true := by
  intro u hu
  unfold flTg at hu
  simp only [List.mem_flatMap] at hu
  obtain ⟨x, _, hx⟩ := hu
  exact cTg_one x u hx
theorem flTg_get : ∀ (xs : List Tgv) (k : Nat) (x : Tgv), xs[k]? = some x → ∀ j, j < 5 → (flTg xs)[k * 5 + j]? = (cTg x)[j]?
  | [], k, x, h, _, _ => by simp at h
  | y :: r, 0, x, h, j, hj => by
    simp at h
    subst h
    rw [flTg_cons, Nat.zero_mul, Nat.zero_add, List.getElem?_append_left (by rw [cTg_len]; exact hj)]
  | y :: r, k + 1, x, h, j, hj => by
    rw [flTg_cons, List.getElem?_append_right (by rw [cTg_len]; omega), cTg_len, show (k + 1) * 5 + j - 5 = k * 5 + j by omega]
    exact flTg_get r k x (by simpa using h) j hj
/-- The cells of an element, put one after the other. -/
def putTg (l : List Value) (i : Nat) (x : Tgv) : List Value := ((((l.set i (.string x.nm)).set (i + 1) (.int .i64 x.p)).set (i + 2) (.int .i64 x.q)).set (i + 3) (.int .i64 x.a)).set (i + 4) (.int .i64 x.b)
theorem putTg_app (p l : List Value) (i : Nat) (x : Tgv) (h : p.length = 5) : putTg (p ++ l) (i + 5) x = p ++ putTg l i x := by
  unfold putTg
  rw [List.set_append_right _ _ (by omega), show i + 5 - p.length = i by omega]
  rw [List.set_append_right _ _ (by omega), show i + 5 + 1 - p.length = i + 1 by omega]
  rw [List.set_append_right _ _ (by omega), show i + 5 + 2 - p.length = i + 2 by omega]
  rw [List.set_append_right _ _ (by omega), show i + 5 + 3 - p.length = i + 3 by omega]
  rw [List.set_append_right _ _ (by omega), show i + 5 + 4 - p.length = i + 4 by omega]
theorem putTg_set : ∀ (xs : List Tgv) (k : Nat) (x : Tgv), k < xs.length → putTg (flTg xs) (k * 5) x = flTg (xs.set k x)
  | [], k, x, h => by simp at h
  | y :: r, 0, x, _ => by simp [flTg_cons, putTg, cTg]
  | y :: r, k + 1, x, h => by
    rw [flTg_cons, show (k + 1) * 5 = k * 5 + 5 by omega, putTg_app _ _ _ _ (cTg_len y), putTg_set r k x (by simpa using h), List.set_cons_succ, flTg_cons]
/-- A row: its elements, and what is spare. -/
def rowTg (ys : List Tgv) (rest : List Value) : Array Value := (flTg ys ++ rest).toArray
theorem rowTg_size (ys : List Tgv) (rest : List Value) : (rowTg ys rest).size = ys.length * 5 + rest.length := by simp [rowTg, flTg_len]
theorem rowTg_get {ys : List Tgv} {rest : List Value} {k : Nat} {x : Tgv} (h : ys[k]? = some x) (j : Nat) (hj : j < 5) : (rowTg ys rest)[k * 5 + j]? = (cTg x)[j]? := by
  have hk : k < ys.length := (List.getElem?_eq_some_iff.1 h).1
  unfold rowTg
  rw [List.getElem?_toArray, List.getElem?_append_left (by rw [flTg_len]; omega)]
  exact flTg_get ys k x h j hj
/-- The cells of an element at an address. -/
structure CelTg (w : World) (a : Addr) (x : Tgv) : Prop where
  h0 : w.cell? a = some (.string x.nm)
  h1 : w.cell? ⟨a.block, a.off + 1, none⟩ = some (.int .i64 x.p)
  h2 : w.cell? ⟨a.block, a.off + 2, none⟩ = some (.int .i64 x.q)
  h3 : w.cell? ⟨a.block, a.off + 3, none⟩ = some (.int .i64 x.a)
  h4 : w.cell? ⟨a.block, a.off + 4, none⟩ = some (.int .i64 x.b)
theorem CelTg.lt {w : World} {a : Addr} {x : Tgv} (h : CelTg w a x) : a.block < w.heap.size := World.block_lt_of_cell? _ _ h.h0
theorem CelTg.keep {w w' : World} {a : Addr} {x : Tgv} (h : CelTg w a x) (hg : Gr w w') : CelTg w' a x :=
  ⟨(hg.cellI (World.block_lt_of_cell? _ _ h.h0)).trans h.h0, (hg.cellI (World.block_lt_of_cell? _ _ h.h1)).trans h.h1, (hg.cellI (World.block_lt_of_cell? _ _ h.h2)).trans h.h2, (hg.cellI (World.block_lt_of_cell? _ _ h.h3)).trans h.h3, (hg.cellI (World.block_lt_of_cell? _ _ h.h4)).trans h.h4⟩
theorem CelTg.only {w w' : World} {g : Nat} {a : Addr} {x : Tgv} (h : CelTg w a x) (o : Only g w w') (hne : a.block ≠ g) : CelTg w' a x :=
  ⟨o.keepI h.h0 hne, o.keepI h.h1 hne, o.keepI h.h2 hne, o.keepI h.h3 hne, o.keepI h.h4 hne⟩
theorem CelTg.blk {w : World} {g k : Nat} {x : Tgv} (h : CelTg w ⟨g, k, none⟩ x) : w.cell? ⟨g, k, none⟩ = some (.string x.nm) ∧ w.cell? ⟨g, k + 1, none⟩ = some (.int .i64 x.p) ∧ w.cell? ⟨g, k + 2, none⟩ = some (.int .i64 x.q) ∧ w.cell? ⟨g, k + 3, none⟩ = some (.int .i64 x.a) ∧ w.cell? ⟨g, k + 4, none⟩ = some (.int .i64 x.b) :=
  ⟨h.h0, h.h1, h.h2, h.h3, h.h4⟩
theorem celTg_of {w : World} {g k : Nat} {T : TypeId} {ys : List Tgv} {rest : List Value} {x : Tgv} (h : w.heap[g]? = some (.cells (rowTg ys rest) T)) (hk : ys[k]? = some x) : CelTg w ⟨g, k * 5, none⟩ x := by
  have hj := rowTg_get (rest := rest) hk
  refine ⟨?_, ?_, ?_, ?_, ?_⟩
  · have := hj 0 (by omega); simp only [World.cell?, h]; simpa [cTg] using this
  · have := hj 1 (by omega); simp only [World.cell?, h]; simpa [cTg] using this
  · have := hj 2 (by omega); simp only [World.cell?, h]; simpa [cTg] using this
  · have := hj 3 (by omega); simp only [World.cell?, h]; simpa [cTg] using this
  · have := hj 4 (by omega); simp only [World.cell?, h]; simpa [cTg] using this
/-- A slice of the laws' elements, as it came in. -/
def RawTg (w : World) (v : Value) (xs : List Tgv) : Prop :=
  (v = .slice none 0 0 ∧ xs = []) ∨ ∃ (ad : Addr) (cap : Nat), v = .slice (some ad) xs.length cap ∧ ∀ (k : Nat) (x : Tgv), xs[k]? = some x → CelTg w (ad.add (k * 5)) x
theorem RawTg.keep {w w' : World} {v : Value} {xs : List Tgv} (h : RawTg w v xs) (hg : Gr w w') : RawTg w' v xs := by
  rcases h with h | ⟨ad, cap, h1, h3⟩
  · exact .inl h
  · exact .inr ⟨ad, cap, h1, fun k x hk => (h3 k x hk).keep hg⟩
/-- A slice that reads as these elements. -/
def RdTg (w : World) (A : Option Addr) (xs : List Tgv) : Prop := ∀ (k : Nat) (x : Tgv), xs[k]? = some x → ∃ ad, A = some ad ∧ CelTg w (ad.add (k * 5)) x
theorem RdTg.keep {w w' : World} {A : Option Addr} {xs : List Tgv} (h : RdTg w A xs) (hg : Gr w w') : RdTg w' A xs := fun k x hk => by
  obtain ⟨ad, e, c⟩ := h k x hk
  exact ⟨ad, e, c.keep hg⟩
theorem RdTg.only {w w' : World} {g : Nat} {A : Option Addr} {xs : List Tgv} (h : RdTg w A xs) (o : Only g w w') (hne : ∀ ad, A = some ad → ad.block ≠ g) : RdTg w' A xs := fun k x hk => by
  obtain ⟨ad, e, c⟩ := h k x hk
  exact ⟨ad, e, c.only o (by rw [addI_block]; exact hne ad e)⟩
theorem RdTg.of_block {w : World} {g : Nat} {T : TypeId} {xs : List Tgv} {rest : List Value} (h : w.heap[g]? = some (.cells (rowTg xs rest) T)) : RdTg w (some ⟨g, 0, none⟩) xs := fun k x hk =>
  ⟨_, rfl, by rw [add_at]; exact celTg_of h hk⟩
theorem RdTg.nil (w : World) (A : Option Addr) : RdTg w A [] := fun k x hk => by simp at hk
theorem rowTg_put (ys : List Tgv) (rest : List Value) (k : Nat) (x : Tgv) (h : k < ys.length) : (((((rowTg ys rest).setIfInBounds (k * 5) (.string x.nm)).setIfInBounds (k * 5 + 1) (.int .i64 x.p)).setIfInBounds (k * 5 + 2) (.int .i64 x.q)).setIfInBounds (k * 5 + 3) (.int .i64 x.a)).setIfInBounds (k * 5 + 4) (.int .i64 x.b) = rowTg (ys.set k x) rest := by
  have e : putTg (flTg ys ++ rest) (k * 5) x = flTg (ys.set k x) ++ rest := by
    rw [← putTg_set ys k x h]
    have hl := flTg_len ys
    unfold putTg
    rw [List.set_append_left _ _ (by omega), List.set_append_left _ _ (by simp only [List.length_set]; omega), List.set_append_left _ _ (by simp only [List.length_set]; omega), List.set_append_left _ _ (by simp only [List.length_set]; omega), List.set_append_left _ _ (by simp only [List.length_set]; omega)]
  unfold putTg at e
  unfold rowTg
  rw [← e]
  simp only [List.setIfInBounds_toArray]
theorem storeTg {w : World} {g k : Nat} {T : TypeId} {ys : List Tgv} {rest : List Value} (x : Tgv) (h : w.heap[g]? = some (.cells (rowTg ys rest) T)) (hk : k < ys.length) :
    (((((w.setCell ⟨g, k * 5, none⟩ (.string x.nm)).setCell ⟨g, k * 5 + 1, none⟩ (.int .i64 x.p)).setCell ⟨g, k * 5 + 2, none⟩ (.int .i64 x.q)).setCell ⟨g, k * 5 + 3, none⟩ (.int .i64 x.a)).setCell ⟨g, k * 5 + 4, none⟩ (.int .i64 x.b)).heap[g]? = some (.cells (rowTg (ys.set k x) rest) T) := by
  have e0 := Joins.block_setCell (i := k * 5) h (.string x.nm)
  have e1 := Joins.block_setCell (i := k * 5 + 1) e0 (.int .i64 x.p)
  have e2 := Joins.block_setCell (i := k * 5 + 2) e1 (.int .i64 x.q)
  have e3 := Joins.block_setCell (i := k * 5 + 3) e2 (.int .i64 x.a)
  have e4 := Joins.block_setCell (i := k * 5 + 4) e3 (.int .i64 x.b)
  rw [rowTg_put ys rest k x hk] at e4
  exact e4
theorem madeTg (n : Nat) : madeCells #[.string .empty, .int .i64 0, .int .i64 0, .int .i64 0, .int .i64 0] (n * 5) = rowTg (List.replicate n zTg) [] := by
  refine Array.ext_getElem? fun i => ?_
  by_cases hi : i < n * 5
  · have hk : (List.replicate n zTg)[i / 5]? = some zTg := by rw [List.getElem?_replicate, if_pos (by omega)]
    have h2 := rowTg_get (rest := []) hk (i % 5) (by omega)
    rw [show i / 5 * 5 + i % 5 = i by omega] at h2
    rw [h2]
    unfold madeCells
    have hm : i % 5 < 5 := by omega
    simp only [cTg, zTg]
    rcases (show i % 5 = 0 ∨ i % 5 = 1 ∨ i % 5 = 2 ∨ i % 5 = 3 ∨ i % 5 = 4 by omega) with h | h | h | h | h <;> simp [hi, h]
  · rw [Array.getElem?_eq_none (by rw [size_madeCells]; omega), Array.getElem?_eq_none (by simp [rowTg_size]; omega)]
theorem takeTg_step {xs : List Tgv} {k : Nat} {x : Tgv} (h : xs[k]? = some x) :
    (xs.take k ++ List.replicate (xs.length - k) zTg).set k x = xs.take (k + 1) ++ List.replicate (xs.length - (k + 1)) zTg := by
  have hk : k < xs.length := (List.getElem?_eq_some_iff.1 h).1
  have hl : (xs.take k).length = k := by simp; omega
  rw [List.set_append_right _ _ (by omega), hl, Nat.sub_self]
  rw [show xs.length - k = (xs.length - (k + 1)) + 1 by omega, List.replicate_succ, List.set_cons_zero]
  rw [List.take_add_one, h]
  simp
theorem takeTg_get {xs : List Tgv} {k : Nat} (hk : k < xs.length) : (xs.take k ++ List.replicate (xs.length - k) zTg)[k]? = some zTg := by
  have hl : (xs.take k).length = k := by simp; omega
  rw [List.getElem?_append_right (by omega), hl, Nat.sub_self, List.getElem?_replicate, if_pos (by omega)]
theorem takeTg_len {xs : List Tgv} {k : Nat} (hk : k < xs.length) : (xs.take k ++ List.replicate (xs.length - k) zTg).length = xs.length := by simp; omega
set_option maxRecDepth 100000 in
theorem makeTg (n : Nat) (hn : n ≤ 1048576) (w : World) :
    (Instr.makeSlice 39 (.int .i64 (n : Int)) (.int .i64 (n : Int))).run Try.prog w = .ok (.slice (some ⟨w.heap.size, 0, none⟩) n n) (w.alloc (.cells (rowTg (List.replicate n zTg) []) 111)) := by
  obtain ⟨i, hi, hz, hs, hb⟩ : ∃ i, Try.prog.info? 111 = some i ∧ i.zero = some (vTg zTg) ∧ i.size = 5 ∧ i.bytes = 48 := ⟨_, rfl, rfl, rfl, rfl⟩
  have h := run_make (P := Try.prog) w 39 111 i (vTg zTg) Try.underlying39 hi hz .i64 .i64 n n (by omega) (Int.le_refl _) (by rw [hb]; omega) (by omega)
  rw [hs] at h
  simp only [Int.toNat_natCast] at h
  rw [h, ← madeTg]
  rfl
/-! rows of the call's own -/
theorem own_openTg {w : World} {base : Nat} {E : TypeId} {A : Option Addr} {c : Nat} {ys : List Tgv} (h : w.ownsRow base E 5 (.slice A ys.length c) ys.length (flTg ys)) (h0 : 0 < ys.length) :
    ∃ g rest, A = some ⟨g, 0, none⟩ ∧ base ≤ g ∧ w.heap[g]? = some (.cells (rowTg ys rest) E) ∧ c ≤ maxLen ∧ ys.length * 5 + rest.length = c * 5 := by
  rcases h.2 with ⟨hv, hn⟩ | ⟨g, cap, cur, hv, hb, hg, hnc, hcm, hcs, ht⟩
  · omega
  · injection hv with e1 e2 e3
    subst e1 e3
    refine ⟨g, cur.toList.drop (ys.length * 5), rfl, hb, ?_, hcm, ?_⟩
    · rw [hg]
      have : rowTg ys (cur.toList.drop (ys.length * 5)) = cur := by
        unfold rowTg
        rw [← ht, List.take_append_drop]
      rw [this]
    · have := congrArg List.length ht
      rw [flTg_len] at this
      simp at this ⊢
      omega
theorem RdTg.of_own {w : World} {base : Nat} {E : TypeId} {A : Option Addr} {n c : Nat} {ys : List Tgv} (h : w.ownsRow base E 5 (.slice A n c) n (flTg ys)) : RdTg w A ys := fun k x hk => by
  have hkl : k < ys.length := (List.getElem?_eq_some_iff.1 hk).1
  have hl : n = ys.length := by have := h.1; rw [flTg_len] at this; omega
  subst hl
  obtain ⟨g, rest, rfl, _, hg, _⟩ := own_openTg h (by omega)
  exact ⟨_, rfl, by rw [add_at]; exact celTg_of hg hk⟩
theorem RdTg.vals {w : World} {A : Option Addr} {xs : List Tgv} (h : RdTg w A xs) (j : Nat) (u : Value) (hj : (flTg xs)[j]? = some u) : ∃ ad, A = some ad ∧ ∃ b o, (ad.add (j / 5 * 5)).block = b ∧ (ad.add (j / 5 * 5)).off = o ∧ (w.cell? (ad.add (j / 5 * 5)) = some u ∨ w.cell? ⟨b, o + j % 5, none⟩ = some u) := by
  have hjl : j < xs.length * 5 := by have := (List.getElem?_eq_some_iff.1 hj).1; rwa [flTg_len] at this
  obtain ⟨x, hk⟩ : ∃ x, xs[j / 5]? = some x := ⟨xs[j / 5]'(by omega), List.getElem?_eq_getElem _⟩
  obtain ⟨ad, e, c⟩ := h _ x hk
  have h1 := flTg_get xs _ x hk (j % 5) (by omega)
  rw [show j / 5 * 5 + j % 5 = j by omega, hj] at h1
  refine ⟨ad, e, _, _, rfl, rfl, ?_⟩
  rcases (show j % 5 = 0 ∨ j % 5 = 1 ∨ j % 5 = 2 ∨ j % 5 = 3 ∨ j % 5 = 4 by omega) with hm | hm | hm | hm | hm <;> rw [hm] at h1 ⊢
  · simp [cTg] at h1; subst h1; exact .inl c.h0
  · simp [cTg] at h1; subst h1; exact .inr c.h1
  · simp [cTg] at h1; subst h1; exact .inr c.h2
  · simp [cTg] at h1; subst h1; exact .inr c.h3
  · simp [cTg] at h1; subst h1; exact .inr c.h4
end Go.Proofs.Ytfpcbgfcachlgaa
