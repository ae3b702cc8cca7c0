/- Slices of structs of 5 cells (impl.Thing): written by gen_st.py. -/
import Derived.Test.YtgfopfomhgfcaaaGreatDoorFm
import Derived.Test.YtgfopfomhgfcaaaGreatDoorC0
import Derived.Test.YtgfopfomhgfcaaaGreatDoorA
import Derived.Lib.OthersKept
import Derived.Lib.DecodeN
import Derived.Lib.TrimU
import Derived.Deep.LoopGhost
import Derived.Test.YtgfopfomhgfcaaaGreatDoorPh
import Derived.Test.YtgfopfomhgfcaaaGreatDoorMb
import Derived.Test.YtgfopfomhgfcaaaGreatDoorSkf
import Derived.Test.YtgfopfomhgfcaaaGreatDoorX1
import Derived.Test.YtgfopfomhgfcaaaGreatDoorB0
namespace Go.Proofs.YtgfopfomhgfcaaaGreatDoor
open Go.RowKit Go.Sort

structure Tgv where
  nm : ByteArray
  p : Int
  q : Int
  a : Int
  b : Int
abbrev vTg (x : Tgv) : Value := .agg #[.string x.nm, .int .i64 x.p, .int .i64 x.q, .int .i64 x.a, .int .i64 x.b]
def cTg (x : Tgv) : List Value := [.string x.nm, .int .i64 x.p, .int .i64 x.q, .int .i64 x.a, .int .i64 x.b]
def zTg : Tgv := ⟨.empty, 0, 0, 0, 0⟩
instance inhTg : Inhabited Tgv := ⟨zTg⟩
theorem cTg_len (x : Tgv) : (cTg x).length = 5 := rfl
theorem cTg_one (x : Tgv) : ∀ u ∈ cTg x, u.oneCell' = true := by
  intro u hu
  simp only [cTg, List.mem_cons, List.not_mem_nil, or_false] at hu
  rcases hu with rfl | rfl | rfl | rfl | rfl <;> rfl
def flTg (xs : List Tgv) : List Value := xs.flatMap cTg
theorem flTg_cons (x : Tgv) (r : List Tgv) : flTg (x :: r) = cTg x ++ flTg r := by simp [flTg]
theorem flTg_app (xs : List Tgv) (x : Tgv) : flTg xs ++ cTg x = flTg (xs ++ [x]) := by simp [flTg]
theorem flTg_app2 (xs ys : List Tgv) : flTg (xs ++ ys) = flTg xs ++ flTg ys := by simp [flTg]
theorem flTg_len : ∀ xs : List Tgv, (flTg xs).length = xs.length * 5
  | [] => rfl
  | x :: r => by rw [flTg_cons, List.length_append, cTg_len, flTg_len r, List.length_cons]; omega
theorem flTg_one (xs : List Tgv) : ∀ u ∈ flTg xs, u.oneCell' = true := by
  intro u hu
  unfold flTg at hu
  simp only [List.mem_flatMap] at hu
  obtain ⟨x, _, hx⟩ := hu
  exact cTg_one x u hx
theorem flTg_get : ∀ (xs : List Tgv) (k : Nat) (x : Tgv), xs[k]? = some x → ∀ j, j < 5 → (flTg xs)[k * 5 + j]? = (cTg x)[j]?
  | [], k, x, h, _, _ => by simp at h
  | y :: r, 0, x, h, j, hj => by
    simp at h
    subst h
    rw [flTg_cons, Nat.zero_mul, Nat.zero_add, List.getElem?_append_left (by rw [cTg_len]; exact hj)]
  | y :: r, k + 1, x, h, j, hj => by
    rw [flTg_cons, List.getElem?_append_right (by rw [cTg_len]; omega), cTg_len, show (k + 1) * 5 + j - 5 = k * 5 + j by omega]
    exact flTg_get r k x (by simpa using h) j hj
/-- The cells of an element, put one after the other. -/
def putTg (l : List Value) (i : Nat) (x : Tgv) : List Value := ((((l.set i (.string x.nm)).set (i + 1) (.int .i64 x.p)).set (i + 2) (.int .i64 x.q)).set (i + 3) (.int .i64 x.a)).set (i + 4) (.int .i64 x.b)
theorem putTg_app (p l : List Value) (i : Nat) (x : Tgv) (h : p.length = 5) : putTg (p ++ l) (i + 5) x = p ++ putTg l i x := by
  unfold putTg
  rw [List.set_append_right _ _ (by omega), show i + 5 - p.length = i by omega]
  rw [List.set_append_right _ _ (by omega), show i + 5 + 1 - p.length = i + 1 by omega]
  rw [List.set_append_right _ _ (by omega), show i + 5 + 2 - p.length = i + 2 by omega]
  rw [List.set_append_right _ _ (by omega), show i + 5 + 3 - p.length = i + 3 by omega]
  rw [List.set_append_right _ _ (by omega), show i + 5 + 4 - p.length = i + 4 by omega]
theorem putTg_set : ∀ (xs : List Tgv) (k : Nat) (x : Tgv), k < xs.length → putTg (flTg xs) (k * 5) x = flTg (xs.set k x)
  | [], k, x, h => by simp at h
  | y :: r, 0, x, _ => by simp [flTg_cons, putTg, cTg]
  | y :: r, k + 1, x, h => by
    rw [flTg_cons, show (k + 1) * 5 = k * 5 + 5 by omega, putTg_app _ _ _ _ (cTg_len y), putTg_set r k x (by simpa using h), List.set_cons_succ, flTg_cons]
/-- A row: its elements, and what is spare. -/
def rowTg (ys : List Tgv) (rest : List Value) : Array Value := (flTg ys ++ rest).toArray
theorem rowTg_size (ys : List Tgv) (rest : List Value) : (rowTg ys rest).size = ys.length * 5 + rest.length := by simp [rowTg, flTg_len]
theorem rowTg_get {ys : List Tgv} {rest : List Value} {k : Nat} {x : Tgv} (h : ys[k]? = some x) (j : Nat) (hj : j < 5) : (rowTg ys rest)[k * 5 + j]? = (cTg x)[j]? := by
  have hk : k < ys.length := (List.getElem?_eq_some_iff.1 h).1
  unfold rowTg
  rw [List.getElem?_toArray, List.getElem?_append_left (by rw [flTg_len]; omega)]
  exact flTg_get ys k x h j hj
/-- The cells of an element at an address. -/
structure CelTg (w : World) (a : Addr) (x : Tgv) : Prop where
  h0 : w.cell? a = some (.string x.nm)
  h1 : w.cell? ⟨a.block, a.off + 1, none⟩ = some (.int .i64 x.p)
  h2 : w.cell? ⟨a.block, a.off + 2, none⟩ = some (.int .i64 x.q)
  h3 : w.cell? ⟨a.block, a.off + 3, none⟩ = some (.int .i64 x.a)
  h4 : w.cell? ⟨a.block, a.off + 4, none⟩ = some (.int .i64 x.b)
theorem CelTg.lt {w : World} {a : Addr} {x : Tgv} (h : CelTg w a x) : a.block < w.heap.size := World.block_lt_of_cell? _ _ h.h0
theorem CelTg.keep {w w' : World} {a : Addr} {x : Tgv} (h : CelTg w a x) (hg : Gr w w') : CelTg w' a x :=
  ⟨(hg.cellI (World.block_lt_of_cell? _ _ h.h0)).trans h.h0, (hg.cellI (World.block_lt_of_cell? _ _ h.h1)).trans h.h1, (hg.cellI (World.block_lt_of_cell? _ _ h.h2)).trans h.h2, (hg.cellI (World.block_lt_of_cell? _ _ h.h3)).trans h.h3, (hg.cellI (World.block_lt_of_cell? _ _ h.h4)).trans h.h4⟩
theorem CelTg.only {w w' : World} {g : Nat} {a : Addr} {x : Tgv} (h : CelTg w a x) (o : Only g w w') (hne : a.block ≠ g) : CelTg w' a x :=
  ⟨o.keepI h.h0 hne, o.keepI h.h1 hne, o.keepI h.h2 hne, o.keepI h.h3 hne, o.keepI h.h4 hne⟩
theorem CelTg.blk {w : World} {g k : Nat} {x : Tgv} (h : CelTg w ⟨g, k, none⟩ x) : w.cell? ⟨g, k, none⟩ = some (.string x.nm) ∧ w.cell? ⟨g, k + 1, none⟩ = some (.int .i64 x.p) ∧ w.cell? ⟨g, k + 2, none⟩ = some (.int .i64 x.q) ∧ w.cell? ⟨g, k + 3, none⟩ = some (.int .i64 x.a) ∧ w.cell? ⟨g, k + 4, none⟩ = some (.int .i64 x.b) :=
  ⟨h.h0, h.h1, h.h2, h.h3, h.h4⟩
theorem celTg_of {w : World} {g k : Nat} {T : TypeId} {ys : List Tgv} {rest : List Value} {x : Tgv} (h : w.heap[g]? = some (.cells (rowTg ys rest) T)) (hk : ys[k]? = some x) : CelTg w ⟨g, k * 5, none⟩ x := by
  have hj := rowTg_get (rest := rest) hk
  refine ⟨?_, ?_, ?_, ?_, ?_⟩
  · have := hj 0 (by omega); simp only [World.cell?, h]; simpa [cTg] using this
  · have := hj 1 (by omega); simp only [World.cell?, h]; simpa [cTg] using this
  · have := hj 2 (by omega); simp only [World.cell?, h]; simpa [cTg] using this
  · have := hj 3 (by omega); simp only [World.cell?, h]; simpa [cTg] using this
  · have := hj 4 (by omega); simp only [World.cell?, h]; simpa [cTg] using this
/-- A slice of the laws' elements, as it came in. -/
def RawTg (w : World) (v : Value) (xs : List Tgv) : Prop :=
  (v = .slice none 0 0 ∧ xs = []) ∨ ∃ (ad : Addr) (cap : Nat), v = .slice (some ad) xs.length cap ∧ ∀ (k : Nat) (x : Tgv), xs[k]? = some x → CelTg w (ad.add (k * 5)) x
theorem RawTg.keep {w w' : World} {v : Value} {xs : List Tgv} (h : RawTg w v xs) (hg : Gr w w') : RawTg w' v xs := by
  rcases h with h | ⟨ad, cap, h1, h3⟩
  · exact .inl h
  · exact .inr ⟨ad, cap, h1, fun k x hk => (h3 k x hk).keep hg⟩
/-- A slice that reads as these elements. -/
def RdTg (w : World) (A : Option Addr) (xs : List Tgv) : Prop := ∀ (k : Nat) (x : Tgv), xs[k]? = some x → ∃ ad, A = some ad ∧ CelTg w (ad.add (k * 5)) x
theorem RdTg.keep {w w' : World} {A : Option Addr} {xs : List Tgv} (h : RdTg w A xs) (hg : Gr w w') : RdTg w' A xs := fun k x hk => by
  obtain ⟨ad, e, c⟩ := h k x hk
  exact ⟨ad, e, c.keep hg⟩
theorem RdTg.only {w w' : World} {g : Nat} {A : Option Addr} {xs : List Tgv} (h : RdTg w A xs) (o : Only g w w') (hne : ∀ ad, A = some ad → ad.block ≠ g) : RdTg w' A xs := fun k x hk => by
  obtain ⟨ad, e, c⟩ := h k x hk
  exact ⟨ad, e, c.only o (by rw [addI_block]; exact hne ad e)⟩
theorem RdTg.of_block {w : World} {g : Nat} {T : TypeId} {xs : List Tgv} {rest : List Value} (h : w.heap[g]? = some (.cells (rowTg xs rest) T)) : RdTg w (some ⟨g, 0, none⟩) xs := fun k x hk =>
  ⟨_, rfl, by rw [add_at]; exact celTg_of h hk⟩
theorem RdTg.nil (w : World) (A : Option Addr) : RdTg w A [] := fun k x hk => by simp at hk
theorem rowTg_put (ys : List Tgv) (rest : List Value) (k : Nat) (x : Tgv) (h : k < ys.length) : (((((rowTg ys rest).setIfInBounds (k * 5) (.string x.nm)).setIfInBounds (k * 5 + 1) (.int .i64 x.p)).setIfInBounds (k * 5 + 2) (.int .i64 x.q)).setIfInBounds (k * 5 + 3) (.int .i64 x.a)).setIfInBounds (k * 5 + 4) (.int .i64 x.b) = rowTg (ys.set k x) rest := by
  have e : putTg (flTg ys ++ rest) (k * 5) x = flTg (ys.set k x) ++ rest := by
    rw [← putTg_set ys k x h]
    have hl := flTg_len ys
    unfold putTg
    rw [List.set_append_left _ _ (by omega), List.set_append_left _ _ (by simp only [List.length_set]; omega), List.set_append_left _ _ (by simp only [List.length_set]; omega), List.set_append_left _ _ (by simp only [List.length_set]; omega), List.set_append_left _ _ (by simp only [List.length_set]; omega)]
  unfold putTg at e
  unfold rowTg
  rw [← e]
  simp only [List.setIfInBounds_toArray]
theorem storeTg {w : World} {g k : Nat} {T : TypeId} {ys : List Tgv} {rest : List Value} (x : Tgv) (h : w.heap[g]? = some (.cells (rowTg ys rest) T)) (hk : k < ys.length) :
    (((((w.setCell ⟨g, k * 5, none⟩ (.string x.nm)).setCell ⟨g, k * 5 + 1, none⟩ (.int .i64 x.p)).setCell ⟨g, k * 5 + 2, none⟩ (.int .i64 x.q)).setCell ⟨g, k * 5 + 3, none⟩ (.int .i64 x.a)).setCell ⟨g, k * 5 + 4, none⟩ (.int .i64 x.b)).heap[g]? = some (.cells (rowTg (ys.set k x) rest) T) := by
  have e0 := Joins.block_setCell (i := k * 5) h (.string x.nm)
  have e1 := Joins.block_setCell (i := k * 5 + 1) e0 (.int .i64 x.p)
  have e2 := Joins.block_setCell (i := k * 5 + 2) e1 (.int .i64 x.q)
  have e3 := Joins.block_setCell (i := k * 5 + 3) e2 (.int .i64 x.a)
  have e4 := Joins.block_setCell (i := k * 5 + 4) e3 (.int .i64 x.b)
  rw [rowTg_put ys rest k x hk] at e4
  exact e4
theorem madeTg (n : Nat) : madeCells #[.string .empty, .int .i64 0, .int .i64 0, .int .i64 0, .int .i64 0] (n * 5) = rowTg (List.replicate n zTg) [] := by
  refine Array.ext_getElem? fun i => ?_
  by_cases hi : i < n * 5
  · have hk : (List.replicate n zTg)[i / 5]? = some zTg := by rw [List.getElem?_replicate, if_pos (by omega)]
    have h2 := rowTg_get (rest := []) hk (i % 5) (by omega)
    rw [show i / 5 * 5 + i % 5 = i by omega] at h2
    rw [h2]
    unfold madeCells
    have hm : i % 5 < 5 := by omega
    simp only [cTg, zTg]
    rcases (show i % 5 = 0 ∨ i % 5 = 1 ∨ i % 5 = 2 ∨ i % 5 = 3 ∨ i % 5 = 4 by omega) with h | h | h | h | h <;> simp [hi, h]
  · rw [Array.getElem?_eq_none (by rw [size_madeCells]; omega), Array.getElem?_eq_none (by simp [rowTg_size]; omega)]
theorem takeTg_step {xs : List Tgv} {k : Nat} {x : Tgv} (h : xs[k]? = some x) :
    (xs.take k ++ List.replicate (xs.length - k) zTg).set k x = xs.take (k + 1) ++ List.replicate (xs.length - (k + 1)) zTg := by
  have hk : k < xs.length := (List.getElem?_eq_some_iff.1 h).1
  have hl : (xs.take k).length = k := by simp; omega
  rw [List.set_append_right _ _ (by omega), hl, Nat.sub_self]
  rw [show xs.length - k = (xs.length - (k + 1)) + 1 by omega, List.replicate_succ, List.set_cons_zero]
  rw [List.take_add_one, h]
  simp
theorem takeTg_get {xs : List Tgv} {k : Nat} (hk : k < xs.length) : (xs.take k ++ List.replicate (xs.length - k) zTg)[k]? = some zTg := by
  have hl : (xs.take k).length = k := by simp; omega
  rw [List.getElem?_append_right (by omega), hl, Nat.sub_self, List.getElem?_replicate, if_pos (by omega)]
theorem takeTg_len {xs : List Tgv} {k : Nat} (hk : k < xs.length) : (xs.take k ++ List.replicate (xs.length - k) zTg).length = xs.length := by simp; omega
set_option maxRecDepth 100000 in
theorem makeTg (n : Nat) (hn : n ≤ 1048576) (w : World) :
    (Instr.makeSlice 39 (.int .i64 (n : Int)) (.int .i64 (n : Int))).run Tryz.prog w = .ok (.slice (some ⟨w.heap.size, 0, none⟩) n n) (w.alloc (.cells (rowTg (List.replicate n zTg) []) 76)) := by
  obtain ⟨i, hi, hz, hs, hb⟩ : ∃ i, Tryz.prog.info? 76 = some i ∧ i.zero = some (vTg zTg) ∧ i.size = 5 ∧ i.bytes = 48 := ⟨_, rfl, rfl, rfl, rfl⟩
  have h := run_make (P := Tryz.prog) w 39 76 i (vTg zTg) Tryz.underlying39 hi hz .i64 .i64 n n (by omega) (Int.le_refl _) (by rw [hb]; omega) (by omega)
  rw [hs] at h
  simp only [Int.toNat_natCast] at h
  rw [h, ← madeTg]
  rfl
/-! rows of the call's own -/
theorem own_openTg {w : World} {base : Nat} {E : TypeId} {A : Option Addr} {c : Nat} {ys : List Tgv} (h : w.ownsRow base E 5 (.slice A ys.length c) ys.length (flTg ys)) (h0 : 0 < ys.length) :
    ∃ g rest, A = some ⟨g, 0, none⟩ ∧ base ≤ g ∧ w.heap[g]? = some (.cells (rowTg ys rest) E) ∧ c ≤ maxLen ∧ ys.length * 5 + rest.length = c * 5 := by
  rcases h.2 with ⟨hv, hn⟩ | ⟨g, cap, cur, hv, hb, hg, hnc, hcm, hcs, ht⟩
  · omega
  · injection hv with e1 e2 e3
    subst e1 e3
    refine ⟨g, cur.toList.drop (ys.length * 5), rfl, hb, ?_, hcm, ?_⟩
    · rw [hg]
      have : rowTg ys (cur.toList.drop (ys.length * 5)) = cur := by
        unfold rowTg
        rw [← ht, List.take_append_drop]
      rw [this]
    · have := congrArg List.length ht
      rw [flTg_len] at this
      simp at this ⊢
      omega
theorem RdTg.of_own {w : World} {base : Nat} {E : TypeId} {A : Option Addr} {n c : Nat} {ys : List Tgv} (h : w.ownsRow base E 5 (.slice A n c) n (flTg ys)) : RdTg w A ys := fun k x hk => by
  have hkl : k < ys.length := (List.getElem?_eq_some_iff.1 hk).1
  have hl : n = ys.length := by have := h.1; rw [flTg_len] at this; omega
  subst hl
  obtain ⟨g, rest, rfl, _, hg, _⟩ := own_openTg h (by omega)
  exact ⟨_, rfl, by rw [add_at]; exact celTg_of hg hk⟩
theorem RdTg.vals {w : World} {A : Option Addr} {xs : List Tgv} (h : RdTg w A xs) (j : Nat) (u : Value) (hj : (flTg xs)[j]? = some u) : ∃ ad, A = some ad ∧ ∃ b o, (ad.add (j / 5 * 5)).block = b ∧ (ad.add (j / 5 * 5)).off = o ∧ (w.cell? (ad.add (j / 5 * 5)) = some u ∨ w.cell? ⟨b, o + j % 5, none⟩ = some u) := by
  have hjl : j < xs.length * 5 := by have := (List.getElem?_eq_some_iff.1 hj).1; rwa [flTg_len] at this
  obtain ⟨x, hk⟩ : ∃ x, xs[j / 5]? = some x := ⟨xs[j / 5]'(by omega), List.getElem?_eq_getElem _⟩
  obtain ⟨ad, e, c⟩ := h _ x hk
  have h1 := flTg_get xs _ x hk (j % 5) (by omega)
  rw [show j / 5 * 5 + j % 5 = j by omega, hj] at h1
  refine ⟨ad, e, _, _, rfl, rfl, ?_⟩
  rcases (show j % 5 = 0 ∨ j % 5 = 1 ∨ j % 5 = 2 ∨ j % 5 = 3 ∨ j % 5 = 4 by omega) with hm | hm | hm | hm | hm <;> rw [hm] at h1 ⊢
  · simp [cTg] at h1; subst h1; exact .inl c.h0
  · simp [cTg] at h1; subst h1; exact .inr c.h1
  · simp [cTg] at h1; subst h1; exact .inr c.h2
  · simp [cTg] at h1; subst h1; exact .inr c.h3
  · simp [cTg] at h1; subst h1; exact .inr c.h4
end Go.Proofs.YtgfopfomhgfcaaaGreatDoor
namespace Go.Proofs.YtgfopfomhgfcaaaGreatDoor
open Go.RowKit Go.Sort

def ltrB (c : UInt8) : Bool := decide (97 ≤ c.toNat) && decide (c.toNat ≤ 122)
def ltrs (s : ByteArray) : Bool := s.data.toList.all ltrB
theorem decN_ge (n b0 b1 b2 b3 : Nat) (h : 128 ≤ b0) : 128 ≤ (Go.Lib.decodeN n b0 b1 b2 b3).1 := by
  unfold Go.Lib.decodeN
  rw [if_neg (by omega)]
  split
  · split
    · omega
    · decide
  · split
    · split
      · omega
      · decide
    · split
      · split
        · omega
        · decide
      · decide
theorem get_at (s : ByteArray) {pos : Nat} (h : pos < s.size) : s.get! pos = s[pos] := by
  cases s with
  | mk d =>
    have h2 : pos < d.size := h
    show d[pos]! = d[pos]
    exact getElem!_pos d pos h2
theorem dec_letter (s : ByteArray) {pos : Nat} (h : pos < s.size) (hl : ltrB s[pos] = true) : Utf8.decode s pos = (s[pos].toNat, 1) := by
  rw [Go.Lib.decode_at, get_at s h]
  unfold Go.Lib.decodeN
  unfold ltrB at hl
  simp at hl
  rw [if_pos (by omega)]
theorem dec_other (s : ByteArray) {pos : Nat} (h : pos < s.size) (hl : ltrB s[pos] = false) : (Utf8.decode s pos).1 < 97 ∨ 122 < (Utf8.decode s pos).1 := by
  rw [Go.Lib.decode_at, get_at s h]
  by_cases h1 : s[pos].toNat < 128
  · unfold Go.Lib.decodeN
    rw [if_pos h1]
    unfold ltrB at hl
    simp at hl
    show s[pos].toNat < 97 ∨ 122 < s[pos].toNat
    omega
  · have := decN_ge (s.size - pos) s[pos].toNat (s.get! (pos + 1)).toNat (s.get! (pos + 2)).toNat (s.get! (pos + 3)).toNat (by omega)
    omega
theorem Gr.iterAt {w w' : World} (h : Gr w w') {k : Nat} (hk : w.heap.size ≤ k) (s : ByteArray) (pos : Nat) : Gr w (w'.iterAt k s pos) :=
  h.heap rfl rfl rfl rfl (by rw [Go.Lib.iterAt_size]; exact Nat.le_refl _) (fun j hj => Go.Lib.iterAt_other w' k j s pos (by omega))
theorem ltr_take {s : ByteArray} {k : Nat} (h : k < s.size) (ha : (s.data.toList.take k).all ltrB = true) (hx : ltrB s[k] = true) : (s.data.toList.take (k + 1)).all ltrB = true := by
  have hk : k < s.data.toList.length := by simpa using h
  have e : s.data.toList[k] = s[k] := by cases s; simp; rfl
  rw [List.take_succ_eq_append_getElem hk, List.all_append, ha, e]
  simp [hx]
theorem ltr_not {s : ByteArray} {k : Nat} (h : k < s.size) (hx : ltrB s[k] = false) : ltrs s = false := by
  have hk : k < s.data.toList.length := by simpa using h
  have e : s.data.toList[k] = s[k] := by cases s; simp; rfl
  unfold ltrs
  cases ha : s.data.toList.all ltrB with
  | false => rfl
  | true =>
    have := List.all_eq_true.1 ha _ (List.getElem_mem hk)
    rw [e, hx] at this
    cases this
set_option maxHeartbeats 400000 in
theorem iLetter_t (r : Nat) (w : World) (h : r < 97 ∨ 122 < r) : Calls Tryz.prog 149 #[.int .i32 (r : Int)] w fun e w' => e = .returned (.bool true) ∧ w = w' := by
  by_cases h1 : (r : Int) < 97
  · clear h
    go_enter Tryz.func149, Tryz.ntmps149
    go_wp2
    go_ret
    exact ⟨rfl, rfl⟩
  · have h2 : (122 : Int) < (r : Int) := by omega
    clear h
    go_enter Tryz.func149, Tryz.ntmps149
    go_wp2
    go_ret
    exact ⟨rfl, rfl⟩
set_option maxHeartbeats 400000 in
theorem iLetter_f (r : Nat) (w : World) (h1 : 97 ≤ r) (h2 : r ≤ 122) : Calls Tryz.prog 149 #[.int .i32 (r : Int)] w fun e w' => e = .returned (.bool false) ∧ w = w' := by
  have g1 : ¬ (r : Int) < 97 := by omega
  have g2 : ¬ (122 : Int) < (r : Int) := by omega
  go_enter Tryz.func149, Tryz.ntmps149
  go_wp2
  go_ret
  exact ⟨rfl, rfl⟩
set_option maxHeartbeats 2000000 in
set_option maxRecDepth 100000 in
theorem iIndexStr (s : ByteArray) (w : World) :
    Calls Tryz.prog 192 #[.string s, .func (.func 149) #[] #[], .bool true] w fun e w' => (∃ r : Int, e = .returned (.int .i64 r) ∧ decide (0 ≤ r) = !ltrs s) ∧ Gr w w' := by
  go_enter Tryz.func192, Tryz.ntmps192
  go_wp2
  go_loopg [] s.size (fun gf wx => ∃ pos : Nat, wx.heap[w.heap.size]? = some (.stringIter s pos) ∧ Gr w wx ∧ (s.data.toList.take pos).all ltrB = true ∧ s.size ≤ pos + gf)
  case atStart => exact ⟨0, World.iter_heap w s 0, (Gr.refl _).al _, by simp, by omega⟩
  case round =>
    obtain ⟨pos, hit, hg, ha, hfu⟩ := hrel
    have GW := hid hg; have HA := hid ha
    clear hg ha
    by_cases hps : pos < s.size
    · obtain ⟨g', rfl⟩ : ∃ g', gk = g' + 1 := ⟨gk - 1, by omega⟩
      have hnx : ∀ ty, (Instr.next (.pointer (some ⟨w.heap.size, 0, none⟩)) true ty).run Tryz.prog wr = _ := fun ty => Lib.run_next_any_at wr w.heap.size s pos ty hit hps
      cases hl : ltrB s[pos] with
      | true =>
        rw [dec_letter s hps hl] at hnx
        have hl2 := hl
        unfold ltrB at hl2
        simp only [Bool.and_eq_true, decide_eq_true_eq] at hl2
        have hit2 := Lib.iterAt_heap wr w.heap.size s pos (pos + 1) hit
        have G2 := hid (GW.out.iterAt (Nat.le_refl _) s (pos + 1))
        have HT := hid (ltr_take hps HA.out hl)
        obtain ⟨R, hR⟩ : ∃ R, s[pos].toNat = R := ⟨_, rfl⟩
        rw [hR] at hnx hl2
        obtain ⟨W, hWd⟩ : ∃ W, wr.iterAt w.heap.size s (pos + 1) = W := ⟨_, rfl⟩
        simp only [hWd] at hnx hit2 G2
        have HF := hid (iLetter_f R W hl2.1 hl2.2)
        have HIT := hid hit2
        clear hl hl2 hit hit2 hR hWd
        go_wp2_with (go_at_call 149; refine HF.out.mono ?_; rintro e w2 ⟨rfl, rfl⟩)
        go_roundg g'
        case measure => omega
        case rel => exact ⟨pos + 1, HIT.out, G2.out, HT.out, by omega⟩
      | false =>
        have hd := dec_other s hps hl
        have HN := hid (ltr_not hps hl)
        obtain ⟨R, hR⟩ : ∃ R, (Utf8.decode s pos).1 = R := ⟨_, rfl⟩
        obtain ⟨K, hK⟩ : ∃ K, (Utf8.decode s pos).2 = K := ⟨_, rfl⟩
        rw [hR, hK] at hnx
        rw [hR] at hd
        have G2 := hid (GW.out.iterAt (Nat.le_refl _) s (pos + K))
        obtain ⟨W, hWd⟩ : ∃ W, wr.iterAt w.heap.size s (pos + K) = W := ⟨_, rfl⟩
        simp only [hWd] at hnx G2
        have HF := hid (iLetter_t R W hd)
        clear hl hit hR hK hWd hd
        go_wp2_with (go_at_call 149; refine HF.out.mono ?_; rintro e w2 ⟨rfl, rfl⟩)
        go_ret
        exact ⟨⟨_, rfl, by rw [HN.out]; simp⟩, G2.out⟩
    · have hnx : ∀ ty, (Instr.next (.pointer (some ⟨w.heap.size, 0, none⟩)) true ty).run Tryz.prog wr = _ := fun ty => Lib.run_next_end_at wr w.heap.size s pos ty hit hps
      have hall : ltrs s = true := by
        have h := HA.out
        rw [List.take_of_length_le (by simp; omega)] at h
        exact h
      have HALL := hid hall
      clear hall hit
      go_wp2
      go_ret
      exact ⟨⟨_, rfl, by rw [HALL.out]; simp⟩, GW.out⟩
end Go.Proofs.YtgfopfomhgfcaaaGreatDoor
namespace Go.Proofs.YtgfopfomhgfcaaaGreatDoor
open Go.RowKit Go.Sort

set_option maxHeartbeats 400000 in
theorem iIndexStr2 (s : ByteArray) (w : World) :
    Calls Tryz.prog 174 #[.string s, .func (.func 149) #[] #[]] w fun e w' => (∃ r : Int, e = .returned (.int .i64 r) ∧ decide (0 ≤ r) = !ltrs s) ∧ Gr w w' := by
  go_enter Tryz.func174, Tryz.ntmps174
  go_wp2_with fail
  refine (iIndexStr s w).mono ?_
  rintro e w1 ⟨⟨r, rfl, hr⟩, hg⟩
  have HR := hid hr; have HG := hid hg; clear hr hg
  go_wp2_with fail
  go_ret
  exact ⟨⟨r, rfl, HR.out⟩, HG.out⟩
set_option maxHeartbeats 400000 in
theorem iContStr (s : ByteArray) (w : World) :
    Calls Tryz.prog 148 #[.string s, .func (.func 149) #[] #[]] w fun e w' => e = .returned (.bool (!ltrs s)) ∧ Gr w w' := by
  go_enter Tryz.func148, Tryz.ntmps148
  go_wp2_with fail
  refine (iIndexStr2 s w).mono ?_
  rintro e w1 ⟨⟨r, rfl, hr⟩, hg⟩
  have HR := hid hr; have HG := hid hg; clear hr hg
  go_wp2_with fail
  go_ret
  exact ⟨ret_bool (by rw [← HR.out]), HG.out⟩
def nmB (s : ByteArray) (most : Nat) : Bool := (decide (1 ≤ s.size) && decide (s.size ≤ most)) && ltrs s
set_option maxHeartbeats 400000 in
theorem iName (s : ByteArray) (most : Nat) (w : World) :
    Calls Tryz.prog 116 #[.string s, .int .i64 (most : Int)] w fun e w' => e = .returned (.bool (nmB s most)) ∧ Gr w w' := by
  by_cases h1 : 1 ≤ s.size
  · by_cases h2 : s.size ≤ most
    · have e : nmB s most = ltrs s := by unfold nmB; simp [h1, h2]
      rw [e]
      obtain ⟨r, hr⟩ : ∃ r, ltrs s = r := ⟨_, rfl⟩
      have HC := hid (iContStr s w)
      rw [hr] at HC
      rw [hr]
      have d1 : ¬ (s.size : Int) < 1 := by omega
      have d2 : decide (most < s.size) = false := by simpa using h2
      clear e hr h1 h2
      go_enter Tryz.func116, Tryz.ntmps116
      go_wp2_with fail
      refine HC.out.mono ?_
      rintro e w1 ⟨rfl, hg1⟩
      have G1 := hid hg1
      clear hg1
      go_wp2_with fail
      go_ret
      exact ⟨ret_bool (by simp), G1.out⟩
    · have e : nmB s most = false := by unfold nmB; simp [h2]
      rw [e]
      have d1 : ¬ (s.size : Int) < 1 := by omega
      have d2 : decide (most < s.size) = true := by simpa using h2
      clear e h1 h2
      go_enter Tryz.func116, Tryz.ntmps116
      go_wp2
      go_ret
      exact ⟨rfl, Gr.refl _⟩
  · have e : nmB s most = false := by unfold nmB; simp [h1]
    rw [e]
    have d1 : (s.size : Int) < 1 := by omega
    clear e h1
    go_enter Tryz.func116, Tryz.ntmps116
    go_wp2
    go_ret
    exact ⟨rfl, Gr.refl _⟩
abbrev rdr (s : ByteArray) (b u : Int) (o : Bool) : Value := .agg #[.string s, .int .i16 b, .int .i16 u, .bool o]
def rrB (s : ByteArray) (b u : Int) : Bool := nmB s 12 && gsB b u
theorem iName_is (s : ByteArray) (r : Bool) (w : World) (h : nmB s 12 = r) : Calls Tryz.prog 116 #[.string s, .int .i64 12] w fun e w' => e = .returned (.bool r) ∧ Gr w w' := h ▸ iName s 12 w
end Go.Proofs.YtgfopfomhgfcaaaGreatDoor
namespace Go.Proofs.YtgfopfomhgfcaaaGreatDoor
open Go.RowKit Go.Sort

def grB (p q : Int) : Bool := okB p q && (decide (0 ≤ p) && decide (p * 1000 ≤ q))
def lenB (p q : Int) : Bool := decide (0 < p) && decide (p ≤ 100000 * q)
def tgB (x : Tgv) : Bool := nmB x.nm 12 && (okB x.p x.q && (lenB x.p x.q && grB x.a x.b))
theorem iFracOk (p q : Int) (r : Bool) (w : World) (h : okB p q = r) : Calls Tryz.prog 85 #[fr p q] w fun e w' => e = .returned (.bool r) ∧ Gr w w' := by
  cases r with
  | true => exact iok_t p q w h
  | false => exact iok_f p q w h
set_option maxRecDepth 20000 in
set_option maxHeartbeats 600000 in
theorem iGrowth (p q : Int) (w : World) : Calls Tryz.prog 79 #[fr p q] w fun e w' => e = .returned (.bool (grB p q)) ∧ Gr w w' := by
  unfold grB
  cases h : okB p q with
  | false =>
    have H := hid h; clear h
    go_enter Tryz.func79, Tryz.ntmps79
    go_wp2_with fail
    refine (iFracOk p q false _ H.out).mono ?_
    rintro e w1 ⟨rfl, hg1⟩
    obtain ⟨x1_0, hz1, g1⟩ := alloc1 hg1
    obtain ⟨_, _⟩ := cells2 x1_0
    have _ := fz x1_0
    have _ := ltb x1_0
    have X1_0 := hid x1_0; clear x1_0
    have G1 := hid (g1)
    clear hg1 g1
    go_wp2
    go_ret
    exact ⟨ret_bool (by simp), G1.out⟩
  | true =>
    have H := hid h
    obtain ⟨h1, h2, h3, h4⟩ := okB_bd h
    clear h
    by_cases g1 : 0 ≤ p
    · rw [decide_eq_true g1]
      by_cases g2 : p * 1000 ≤ q
      · rw [decide_eq_true g2]
        go_enter Tryz.func79, Tryz.ntmps79
        go_wp2_with fail
        refine (iFracOk p q true _ H.out).mono ?_
        rintro e w1 ⟨rfl, hg1⟩
        obtain ⟨x1_0, hz1, g1⟩ := alloc1 hg1
        obtain ⟨_, _⟩ := cells2 x1_0
        have _ := fz x1_0
        have _ := ltb x1_0
        have X1_0 := hid x1_0; clear x1_0
        have G1 := hid (g1)
        clear hg1 g1
        go_wp2
        go_ret
        exact ⟨ret_bool (by simp), G1.out⟩
      · rw [decide_eq_false g2]
        go_enter Tryz.func79, Tryz.ntmps79
        go_wp2_with fail
        refine (iFracOk p q true _ H.out).mono ?_
        rintro e w1 ⟨rfl, hg1⟩
        obtain ⟨x1_0, hz1, g1⟩ := alloc1 hg1
        obtain ⟨_, _⟩ := cells2 x1_0
        have _ := fz x1_0
        have _ := ltb x1_0
        have X1_0 := hid x1_0; clear x1_0
        have G1 := hid (g1)
        clear hg1 g1
        go_wp2
        go_ret
        exact ⟨ret_bool (by simp [g2]), G1.out⟩
    · rw [decide_eq_false g1]
      go_enter Tryz.func79, Tryz.ntmps79
      go_wp2_with fail
      refine (iFracOk p q true _ H.out).mono ?_
      rintro e w1 ⟨rfl, hg1⟩
      obtain ⟨x1_0, hz1, g1⟩ := alloc1 hg1
      obtain ⟨_, _⟩ := cells2 x1_0
      have _ := fz x1_0
      have _ := ltb x1_0
      have X1_0 := hid x1_0; clear x1_0
      have G1 := hid (g1)
      clear hg1 g1
      go_wp2
      go_ret
      exact ⟨ret_bool (by simp), G1.out⟩
theorem iGrowth_is (p q : Int) (r : Bool) (w : World) (h : grB p q = r) : Calls Tryz.prog 79 #[fr p q] w fun e w' => e = .returned (.bool r) ∧ Gr w w' := h ▸ iGrowth p q w
set_option maxRecDepth 20000 in
set_option maxHeartbeats 600000 in
theorem iLen (p q : Int) (w : World) (h : okB p q = true) : Calls Tryz.prog 109 #[fr p q, .int .i64 100000] w fun e w' => e = .returned (.bool (lenB p q)) ∧ Gr w w' := by
  obtain ⟨b1, b2, b3, b4⟩ := okB_bd h
  exact iatmost p q 100000 w (by omega) (by omega)
theorem iLen_is (p q : Int) (r : Bool) (w : World) (h : okB p q = true) (hr : lenB p q = r) : Calls Tryz.prog 109 #[fr p q, .int .i64 100000] w fun e w' => e = .returned (.bool r) ∧ Gr w w' := hr ▸ iLen p q w h
set_option maxRecDepth 20000 in
set_option maxHeartbeats 1000000 in
theorem iThing_1 (x : Tgv) (w : World) (h1 : nmB x.nm 12 = false) : Calls Tryz.prog 80 #[vTg x] w fun e w' => e = .returned (.bool false) ∧ Gr w w' := by
  have H1 := hid h1; clear h1
  go_enter Tryz.func80, Tryz.ntmps80
  go_wp2_with fail
  refine (iName_is x.nm false _ H1.out).mono ?_
  rintro e w1 ⟨rfl, hg1⟩
  obtain ⟨x1_0, hz1, g1⟩ := alloc1 hg1
  obtain ⟨_, _, _, _, _⟩ := cells5 x1_0
  have _ := fz x1_0
  have _ := ltb x1_0
  have X1_0 := hid x1_0; clear x1_0
  have G1 := hid (g1)
  clear hg1 g1
  go_wp2
  go_ret
  exact ⟨rfl, G1.out⟩
set_option maxRecDepth 20000 in
set_option maxHeartbeats 1000000 in
theorem iThing_2 (x : Tgv) (w : World) (h1 : nmB x.nm 12 = true) (h2 : okB x.p x.q = false) : Calls Tryz.prog 80 #[vTg x] w fun e w' => e = .returned (.bool false) ∧ Gr w w' := by
  have H1 := hid h1; have H2 := hid h2; clear h1 h2
  go_enter Tryz.func80, Tryz.ntmps80
  go_wp2_with fail
  refine (iName_is x.nm true _ H1.out).mono ?_
  rintro e w1 ⟨rfl, hg1⟩
  obtain ⟨x1_0, hz1, g1⟩ := alloc1 hg1
  obtain ⟨_, _, _, _, _⟩ := cells5 x1_0
  have _ := fz x1_0
  have _ := ltb x1_0
  have X1_0 := hid x1_0; clear x1_0
  have G1 := hid (g1)
  clear hg1 g1
  go_wp2_with fail
  refine (iFracOk x.p x.q false _ H2.out).mono ?_
  rintro e w2 ⟨rfl, hg2⟩
  have x2_1 := hg2.keep X1_0.out
  obtain ⟨_, _, _, _, _⟩ := cells5 x2_1
  have _ := fz x2_1
  have _ := ltb x2_1
  have X2_1 := hid x2_1; clear x2_1
  have G2 := hid (G1.out.trans hg2)
  clear hg2
  go_wp2
  go_ret
  exact ⟨rfl, G2.out⟩
set_option maxRecDepth 20000 in
set_option maxHeartbeats 1000000 in
theorem iThing_3 (x : Tgv) (w : World) (h1 : nmB x.nm 12 = true) (h2 : okB x.p x.q = true) (h3 : lenB x.p x.q = false) : Calls Tryz.prog 80 #[vTg x] w fun e w' => e = .returned (.bool false) ∧ Gr w w' := by
  have H1 := hid h1; have H2 := hid h2; have H3 := hid h3; clear h1 h2 h3
  go_enter Tryz.func80, Tryz.ntmps80
  go_wp2_with fail
  refine (iName_is x.nm true _ H1.out).mono ?_
  rintro e w1 ⟨rfl, hg1⟩
  obtain ⟨x1_0, hz1, g1⟩ := alloc1 hg1
  obtain ⟨_, _, _, _, _⟩ := cells5 x1_0
  have _ := fz x1_0
  have _ := ltb x1_0
  have X1_0 := hid x1_0; clear x1_0
  have G1 := hid (g1)
  clear hg1 g1
  go_wp2_with fail
  refine (iFracOk x.p x.q true _ H2.out).mono ?_
  rintro e w2 ⟨rfl, hg2⟩
  have x2_1 := hg2.keep X1_0.out
  obtain ⟨_, _, _, _, _⟩ := cells5 x2_1
  have _ := fz x2_1
  have _ := ltb x2_1
  have X2_1 := hid x2_1; clear x2_1
  have G2 := hid (G1.out.trans hg2)
  clear hg2
  go_wp2_with fail
  refine (iLen_is x.p x.q false _ H2.out H3.out).mono ?_
  rintro e w3 ⟨rfl, hg3⟩
  have x3_1 := hg3.keep X2_1.out
  obtain ⟨_, _, _, _, _⟩ := cells5 x3_1
  have _ := fz x3_1
  have _ := ltb x3_1
  have X3_1 := hid x3_1; clear x3_1
  have G3 := hid (G2.out.trans hg3)
  clear hg3
  go_wp2
  go_ret
  exact ⟨rfl, G3.out⟩
set_option maxRecDepth 20000 in
set_option maxHeartbeats 1000000 in
theorem iThing_4 (x : Tgv) (r : Bool) (w : World) (h1 : nmB x.nm 12 = true) (h2 : okB x.p x.q = true) (h3 : lenB x.p x.q = true) (h4 : grB x.a x.b = r) : Calls Tryz.prog 80 #[vTg x] w fun e w' => e = .returned (.bool r) ∧ Gr w w' := by
  have H1 := hid h1; have H2 := hid h2; have H3 := hid h3; have H4 := hid h4; clear h1 h2 h3 h4
  go_enter Tryz.func80, Tryz.ntmps80
  go_wp2_with fail
  refine (iName_is x.nm true _ H1.out).mono ?_
  rintro e w1 ⟨rfl, hg1⟩
  obtain ⟨x1_0, hz1, g1⟩ := alloc1 hg1
  obtain ⟨_, _, _, _, _⟩ := cells5 x1_0
  have _ := fz x1_0
  have _ := ltb x1_0
  have X1_0 := hid x1_0; clear x1_0
  have G1 := hid (g1)
  clear hg1 g1
  go_wp2_with fail
  refine (iFracOk x.p x.q true _ H2.out).mono ?_
  rintro e w2 ⟨rfl, hg2⟩
  have x2_1 := hg2.keep X1_0.out
  obtain ⟨_, _, _, _, _⟩ := cells5 x2_1
  have _ := fz x2_1
  have _ := ltb x2_1
  have X2_1 := hid x2_1; clear x2_1
  have G2 := hid (G1.out.trans hg2)
  clear hg2
  go_wp2_with fail
  refine (iLen_is x.p x.q true _ H2.out H3.out).mono ?_
  rintro e w3 ⟨rfl, hg3⟩
  have x3_1 := hg3.keep X2_1.out
  obtain ⟨_, _, _, _, _⟩ := cells5 x3_1
  have _ := fz x3_1
  have _ := ltb x3_1
  have X3_1 := hid x3_1; clear x3_1
  have G3 := hid (G2.out.trans hg3)
  clear hg3
  go_wp2_with fail
  refine (iGrowth_is x.a x.b r _ H4.out).mono ?_
  rintro e w4 ⟨rfl, hg4⟩
  have x4_1 := hg4.keep X3_1.out
  obtain ⟨_, _, _, _, _⟩ := cells5 x4_1
  have _ := fz x4_1
  have _ := ltb x4_1
  have X4_1 := hid x4_1; clear x4_1
  have G4 := hid (G3.out.trans hg4)
  clear hg4
  go_wp2
  go_ret
  exact ⟨rfl, G4.out⟩
theorem iThing (x : Tgv) (r : Bool) (w : World) (hr : tgB x = r) : Calls Tryz.prog 80 #[vTg x] w fun e w' => e = .returned (.bool r) ∧ Gr w w' := by
  unfold tgB at hr
  cases h1 : nmB x.nm 12 with
  | false => rw [h1] at hr; simp at hr; subst hr; exact iThing_1 x w h1
  | true =>
    cases h2 : okB x.p x.q with
    | false => rw [h1, h2] at hr; simp at hr; subst hr; exact iThing_2 x w h1 h2
    | true =>
      cases h3 : lenB x.p x.q with
      | false => rw [h1, h2, h3] at hr; simp at hr; subst hr; exact iThing_3 x w h1 h2 h3
      | true => rw [h1, h2, h3] at hr; simp at hr; exact iThing_4 x r w h1 h2 h3 hr
/-! the reference -/
set_option maxRecDepth 20000 in
set_option maxHeartbeats 600000 in
theorem sGrows (p q : Int) (w : World) : Calls Tryz.prog 69 #[fr p q] w fun e w' => e = .returned (.bool (grB p q)) ∧ Gr w w' := by
  unfold grB
  cases h : okB p q with
  | false =>
    have H := hid h; clear h
    go_enter Tryz.func69, Tryz.ntmps69
    go_wp2_with fail
    refine (sok_f p q _ H.out).mono ?_
    rintro e w1 ⟨rfl, hg1⟩
    obtain ⟨x1_0, hz1, g1⟩ := alloc1 hg1
    obtain ⟨_, _⟩ := cells2 x1_0
    have _ := fz x1_0
    have _ := ltb x1_0
    have X1_0 := hid x1_0; clear x1_0
    have G1 := hid (g1)
    clear hg1 g1
    go_wp2
    go_ret
    exact ⟨ret_bool (by simp), G1.out⟩
  | true =>
    have H := hid h
    obtain ⟨h1, h2, h3, h4⟩ := okB_bd h
    clear h
    by_cases g1 : 0 ≤ p
    · rw [decide_eq_true g1]
      by_cases g2 : p * 1000 ≤ q
      · rw [decide_eq_true g2]
        have g3 : 1000 * p ≤ q := by omega
        go_enter Tryz.func69, Tryz.ntmps69
        go_wp2_with fail
        refine (sok_t p q _ H.out).mono ?_
        rintro e w1 ⟨rfl, hg1⟩
        obtain ⟨x1_0, hz1, g1⟩ := alloc1 hg1
        obtain ⟨_, _⟩ := cells2 x1_0
        have _ := fz x1_0
        have _ := ltb x1_0
        have X1_0 := hid x1_0; clear x1_0
        have G1 := hid (g1)
        clear hg1 g1
        go_wp2
        go_ret
        exact ⟨ret_bool (by simp), G1.out⟩
      · rw [decide_eq_false g2]
        have g3 : ¬ 1000 * p ≤ q := by omega
        go_enter Tryz.func69, Tryz.ntmps69
        go_wp2_with fail
        refine (sok_t p q _ H.out).mono ?_
        rintro e w1 ⟨rfl, hg1⟩
        obtain ⟨x1_0, hz1, g1⟩ := alloc1 hg1
        obtain ⟨_, _⟩ := cells2 x1_0
        have _ := fz x1_0
        have _ := ltb x1_0
        have X1_0 := hid x1_0; clear x1_0
        have G1 := hid (g1)
        clear hg1 g1
        go_wp2
        go_ret
        exact ⟨ret_bool (by simp [g3]), G1.out⟩
    · rw [decide_eq_false g1]
      go_enter Tryz.func69, Tryz.ntmps69
      go_wp2_with fail
      refine (sok_t p q _ H.out).mono ?_
      rintro e w1 ⟨rfl, hg1⟩
      obtain ⟨x1_0, hz1, g1⟩ := alloc1 hg1
      obtain ⟨_, _⟩ := cells2 x1_0
      have _ := fz x1_0
      have _ := ltb x1_0
      have X1_0 := hid x1_0; clear x1_0
      have G1 := hid (g1)
      clear hg1 g1
      go_wp2
      go_ret
      exact ⟨ret_bool (by simp), G1.out⟩
theorem sGrows_is (p q : Int) (r : Bool) (w : World) (h : grB p q = r) : Calls Tryz.prog 69 #[fr p q] w fun e w' => e = .returned (.bool r) ∧ Gr w w' := h ▸ sGrows p q w
set_option maxRecDepth 20000 in
set_option maxHeartbeats 1000000 in
theorem sName7 (s : ByteArray) (w : World) (hs : s.size ≤ 9223372036854775807) :
    Calls Tryz.prog 70 #[.string s] w fun e w' => e = .returned (.bool (nmB s 12)) ∧ Gr w w' := by
  go_enter Tryz.func70, Tryz.ntmps70
  go_wp2_with fail
  go_loopw [3] (fun u wr => ∃ (k : Nat), u = .int .i64 (k : Int) ∧ k ≤ s.size ∧ (s.data.toList.take k).all ltrB = true ∧ wr = w) (fun u _ => s.size - (intOf u).toNat)
  case atStart => exact ⟨0, rfl, by omega, by simp, by simp⟩
  case round =>
    obtain ⟨k, rfl, hk, ha, rfl⟩ := hrel
    have HA := hid ha; clear ha
    by_cases hlt : k < s.size
    · cases hl : ltrB s[k] with
      | true =>
        have HT := hid (ltr_take hlt HA.out hl)
        have hl2 := hl
        unfold ltrB at hl2
        simp only [Bool.and_eq_true, decide_eq_true_eq] at hl2
        have g1 : ¬ (s[k].toNat : Int) < 97 := by omega
        have g2 : ¬ (122 : Int) < (s[k].toNat : Int) := by omega
        clear hl hl2
        go_wp2_with fail
        exact ⟨⟨k + 1, by simp, by omega, HT.out, by simp⟩, by simp [intOf]; omega⟩
      | false =>
        have HN := hid (show nmB s 12 = false by unfold nmB; rw [ltr_not hlt hl]; simp)
        have hl2 := hl
        unfold ltrB at hl2
        simp at hl2
        clear hl
        by_cases g1 : (s[k].toNat : Int) < 97
        · clear hl2
          go_wp2_with fail
          go_ret
          exact ⟨ret_bool (by rw [HN.out]), Gr.refl _⟩
        · have g2 : (122 : Int) < (s[k].toNat : Int) := by omega
          clear hl2
          go_wp2_with fail
          go_ret
          exact ⟨ret_bool (by rw [HN.out]), Gr.refl _⟩
    · have hall : ltrs s = true := by
        have h := HA.out
        rw [List.take_of_length_le (by simp; omega)] at h
        exact h
      by_cases h0 : s.size = 0
      · have HN := hid (show nmB s 12 = false by unfold nmB; rw [h0]; simp)
        have he : s = ByteArray.empty := by
          obtain ⟨d⟩ := s
          have : d = #[] := by apply Array.eq_empty_of_size_eq_zero; exact h0
          rw [this]
          rfl
        clear hall h0 HA
        subst he
        go_wp2_with fail
        go_ret
        exact ⟨ret_bool (by rw [HN.out]), Gr.refl _⟩
      · have hn : ¬ s.toList = [] := fun h => by
          rw [ByteArray.toList_eq] at h
          have h2 : s.data.toList.length = 0 := by rw [h]; rfl
          have h3 : s.size = s.data.toList.length := by simp
          omega
        have hN : Hid (nmB s 12 = decide (s.size ≤ 12)) := hid (by unfold nmB; rw [hall, decide_eq_true (show 1 ≤ s.size by omega)]; simp)
        clear hall HA
        by_cases h12 : s.size ≤ 12
        · have hi12 : (s.size : Int) ≤ 12 := by omega
          go_wp2_with fail
          all_goals first
            | exact absurd (by assumption) hn
            | (go_ret; exact ⟨ret_bool (by rw [hN.out]; simp [h12]; try omega), Gr.refl _⟩)
        · have hi12 : ¬ (s.size : Int) ≤ 12 := by omega
          go_wp2_with fail
          all_goals first
            | exact absurd (by assumption) hn
            | (go_ret; exact ⟨ret_bool (by rw [hN.out]; simp [h12]; try omega), Gr.refl _⟩)
end Go.Proofs.YtgfopfomhgfcaaaGreatDoor
namespace Go.Proofs.YtgfopfomhgfcaaaGreatDoor
open Go.RowKit Go.Sort

theorem cells8 {w : World} {b : Nat} {x0 x1 x2 x3 x4 x5 x6 x7 : Value} {T : TypeId} (h : w.heap[b]? = some (.cells #[x0, x1, x2, x3, x4, x5, x6, x7] T)) : w.cell? ⟨b, 0, none⟩ = some x0 ∧ w.cell? ⟨b, 1, none⟩ = some x1 ∧ w.cell? ⟨b, 2, none⟩ = some x2 ∧ w.cell? ⟨b, 3, none⟩ = some x3 ∧ w.cell? ⟨b, 4, none⟩ = some x4 ∧ w.cell? ⟨b, 5, none⟩ = some x5 ∧ w.cell? ⟨b, 6, none⟩ = some x6 ∧ w.cell? ⟨b, 7, none⟩ = some x7 := by
  simp [World.cell?, h]
theorem Gr.at8 {w wb : World} {b : Nat} {x0 x1 x2 x3 x4 x5 x6 x7 : Value} {T : TypeId} (hb : Gr w wb) (h : w.heap[b]? = some (.cells #[x0, x1, x2, x3, x4, x5, x6, x7] T)) :
    (∀ (m : Nat) (os : Array Obj), (grow (wb.drewN m) os).cell? ⟨b, 0, none⟩ = some x0) ∧ (∀ (m : Nat) (os : Array Obj), (grow (wb.drewN m) os).cell? ⟨b, 1, none⟩ = some x1) ∧ (∀ (m : Nat) (os : Array Obj), (grow (wb.drewN m) os).cell? ⟨b, 2, none⟩ = some x2) ∧ (∀ (m : Nat) (os : Array Obj), (grow (wb.drewN m) os).cell? ⟨b, 3, none⟩ = some x3) ∧
    (∀ (m : Nat) (os : Array Obj), (grow (wb.drewN m) os).cell? ⟨b, 4, none⟩ = some x4) ∧ (∀ (m : Nat) (os : Array Obj), (grow (wb.drewN m) os).cell? ⟨b, 5, none⟩ = some x5) ∧ (∀ (m : Nat) (os : Array Obj), (grow (wb.drewN m) os).cell? ⟨b, 6, none⟩ = some x6) ∧ (∀ (m : Nat) (os : Array Obj), (grow (wb.drewN m) os).cell? ⟨b, 7, none⟩ = some x7) :=
  have hl := (Array.getElem?_eq_some_iff.1 h).1
  have c := cells8 h
  ⟨fun m os => (hb.at m os b 0 hl).trans c.1, fun m os => (hb.at m os b 1 hl).trans c.2.1, fun m os => (hb.at m os b 2 hl).trans c.2.2.1, fun m os => (hb.at m os b 3 hl).trans c.2.2.2.1, fun m os => (hb.at m os b 4 hl).trans c.2.2.2.2.1, fun m os => (hb.at m os b 5 hl).trans c.2.2.2.2.2.1, fun m os => (hb.at m os b 6 hl).trans c.2.2.2.2.2.2.1, fun m os => (hb.at m os b 7 hl).trans c.2.2.2.2.2.2.2⟩
end Go.Proofs.YtgfopfomhgfcaaaGreatDoor
namespace Go.Proofs.YtgfopfomhgfcaaaGreatDoor
open Go.RowKit Go.Sort

set_option maxRecDepth 20000 in
set_option maxHeartbeats 400000 in
theorem smark8_f1 (v3 v4 v5 v6 v7 : Value) (a b : Int) (A : Option Addr) (c k j : Nat) (xs : List (Int × Int)) (w : World) (X1 : Hid (w.heap[j]? = some (.cells #[.int .i64 a, .int .i64 b, .slice A xs.length c, v3, v4, v5, v6, v7] 41)))
    (h1 : okB a b = true) (ht : okB k 1 = true) (g1 : n1B a b k = false) :
    Calls Tryz.prog 91 #[.pointer (some ⟨j, 0, none⟩), .int .i64 k] w fun e w' => e = .returned (.tuple #[fr 0 0, .int .i64 3]) ∧ Gr w w' := by
  have h1 := hid h1; have ht := hid ht; have g1 := hid g1
  go_enter Tryz.func91, Tryz.ntmps91
  obtain ⟨_, _, _, _, _, _, _, _⟩ := cells8 X1.out
  have _ := fz X1.out
  have _ := ltb X1.out
  go_wp2_with fail
  refine wp_reg1s #[.int .i64 0, .int .i64 0] 12 10 6 11 16 (by kernel_rfl) (by kernel_rfl) rfl rfl (by simp) rfl rfl (by decide) (fun _ _ => by kernel_rfl) (by kernel_rfl) ?_
  apply Exists.intro; apply Exists.intro
  refine ⟨fun wb hb => ?_, ?_⟩
  · obtain ⟨y0, _, _⟩ := alloc1 (Gr.refl _)
    obtain ⟨_, _⟩ := hb.at2 y0
    clear y0
    obtain ⟨_, _, _, _, _, _, _, _⟩ := hb.at8 (((Gr.refl _).al _).keep X1.out)
    simp only [headOps, List.contains, List.elem, Nat.reduceAdd, Nat.reduceBEq, reduceIte, Bool.false_eq_true, dumOp]
    repeat (first | go_big_quiet_step (first | (go_at_call 53; exact Calls.of_gr (swhole1 _ _)) | (go_at_call 126; exact Calls.of_gr (smul_f _ _ _ _ _ ht.out h1.out g1.out))) | quiet_step (fail))
    exact wpQuiet_nil rfl
  refine ⟨rfl, ⟨rfl, by simp [Value.oneCell']⟩, fun w1 b1 hg1 _ xb1 => ?_⟩
  obtain ⟨x1_0, hz1, g1⟩ := alloc1 hg1
  have x1_1 := g1.keep X1.out
  obtain ⟨_, _⟩ := cells2 x1_0
  have _ := fz x1_0
  have _ := ltb x1_0
  obtain ⟨_, _, _, _, _, _, _, _⟩ := cells8 x1_1
  have _ := fz x1_1
  have _ := ltb x1_1
  obtain ⟨_, _⟩ := cells2 xb1
  have _ := fz xb1
  have _ := ltb xb1
  have X1_0 := hid x1_0; clear x1_0
  have X1_1 := hid x1_1; clear x1_1
  have Xb1 := hid xb1; clear xb1
  have G1 := hid (g1)
  clear hg1 g1
  go_wp2
  refine bodyPost_ret (v := .tuple #[fr 0 0, .int .i64 3]) (by simp [results, Tryz.results91, go_sem, *]) rfl ⟨rfl, ?_⟩
  exact ((G1.out).setCell (by simp <;> omega) _).setCell (by simp <;> omega) _
set_option maxRecDepth 20000 in
set_option maxHeartbeats 400000 in
theorem smark8_f2 (v3 v4 v5 v6 v7 : Value) (a b : Int) (A : Option Addr) (c k j : Nat) (xs : List (Int × Int)) (p q : Int) (w : World) (X1 : Hid (w.heap[j]? = some (.cells #[.int .i64 a, .int .i64 b, .slice A xs.length c, v3, v4, v5, v6, v7] 41)))
    (X : Hid (RdF w A xs)) (hk : xs[k]? = some (p, q)) (_hn : xs.length ≤ 1048576) (h1 : okB a b = true) (ht : okB k 1 = true) (h2 : okB p q = true) (g1 : n1B a b k = true) (g2 : mk2 a b k p q = false) :
    Calls Tryz.prog 91 #[.pointer (some ⟨j, 0, none⟩), .int .i64 k] w fun e w' => e = .returned (.tuple #[fr 0 0, .int .i64 3]) ∧ Gr w w' := by
  have hlt := (List.getElem?_eq_some_iff.1 hk).1
  obtain ⟨ad, rfl, c1, c2⟩ := X.out k p q hk
  have C1 := hid c1; have C2 := hid c2
  have h1 := hid h1; have ht := hid ht; have h2 := hid h2; have g1 := hid g1; have g2 := hid g2
  clear hk c1 c2
  go_enter Tryz.func91, Tryz.ntmps91
  obtain ⟨_, _, _, _, _, _, _, _⟩ := cells8 X1.out
  have _ := fz X1.out
  have _ := ltb X1.out
  go_wp2_with fail
  refine wp_reg1s #[.int .i64 0, .int .i64 0] 12 10 6 11 16 (by kernel_rfl) (by kernel_rfl) rfl rfl (by simp) rfl rfl (by decide) (fun _ _ => by kernel_rfl) (by kernel_rfl) ?_
  apply Exists.intro; apply Exists.intro
  refine ⟨fun wb hb => ?_, ?_⟩
  · obtain ⟨y0, _, _⟩ := alloc1 (Gr.refl _)
    obtain ⟨_, _⟩ := hb.at2 y0
    clear y0
    obtain ⟨_, _, _, _, _, _, _, _⟩ := hb.at8 (((Gr.refl _).al _).keep X1.out)
    simp only [headOps, List.contains, List.elem, Nat.reduceAdd, Nat.reduceBEq, reduceIte, Bool.false_eq_true, dumOp]
    repeat (first | go_big_quiet_step (first | (go_at_call 53; exact Calls.of_gr (swhole1 _ _)) | (go_at_call 126; exact Calls.of_gr (mulw_t a b k _ h1.out ht.out g1.out))) | quiet_step (fail))
    exact wpQuiet_nil rfl
  refine ⟨rfl, ⟨rfl, by simp [Value.oneCell']⟩, fun w1 b1 hg1 _ xb1 => ?_⟩
  obtain ⟨x1_0, hz1, g1⟩ := alloc1 hg1
  have x1_1 := g1.keep X1.out
  obtain ⟨_, _⟩ := cells2 x1_0
  have _ := fz x1_0
  have _ := ltb x1_0
  obtain ⟨_, _, _, _, _, _, _, _⟩ := cells8 x1_1
  have _ := fz x1_1
  have _ := ltb x1_1
  obtain ⟨_, _⟩ := cells2 xb1
  have _ := fz xb1
  have _ := ltb xb1
  have X1_0 := hid x1_0; clear x1_0
  have X1_1 := hid x1_1; clear x1_1
  have Xb1 := hid xb1; clear xb1
  have G1 := hid (g1)
  clear hg1 g1
  go_wp2_with fail
  refine wp_reg0 11 (by kernel_rfl) (by kernel_rfl) ?_
  apply Exists.intro
  refine ⟨fun wb hb => ?_, ?_⟩
  · obtain ⟨_, _⟩ := hb.at2 X1_0.out
    obtain ⟨_, _, _, _, _, _, _, _⟩ := hb.at8 X1_1.out
    obtain ⟨_, _⟩ := hb.at2 Xb1.out
    have hg := G1.out.trans hb
    have _ := hg.atF C1.out; have _ := hg.atF C2.out
    clear hg
    simp only [headOps, List.contains, List.elem, reduceIte, Bool.false_eq_true]
    repeat (first | go_big_quiet_step (first | (go_at_call 127; exact Calls.of_gr (saddm_f a b k p q _ h2.out g1.out g2.out))) | quiet_step (fail))
    exact wpQuiet_nil rfl
  intro w2 hg2
  have x2_1 := hg2.keep X1_0.out
  have x2_2 := hg2.keep X1_1.out
  have x2_3 := hg2.keep Xb1.out
  obtain ⟨_, _⟩ := cells2 x2_1
  have _ := fz x2_1
  have _ := ltb x2_1
  obtain ⟨_, _, _, _, _, _, _, _⟩ := cells8 x2_2
  have _ := fz x2_2
  have _ := ltb x2_2
  obtain ⟨_, _⟩ := cells2 x2_3
  have _ := fz x2_3
  have _ := ltb x2_3
  have X2_1 := hid x2_1; clear x2_1
  have X2_2 := hid x2_2; clear x2_2
  have X2_3 := hid x2_3; clear x2_3
  have G2 := hid (G1.out.trans hg2)
  clear hg2
  go_wp2
  refine bodyPost_ret (v := .tuple #[fr 0 0, .int .i64 3]) (by simp [results, Tryz.results91, go_sem, *]) rfl ⟨rfl, ?_⟩
  exact ((G2.out).setCell (by simp <;> omega) _).setCell (by simp <;> omega) _
set_option maxRecDepth 20000 in
set_option maxHeartbeats 400000 in
theorem smark8_t (v3 v4 v5 v6 v7 : Value) (a b : Int) (A : Option Addr) (c k j : Nat) (xs : List (Int × Int)) (p q : Int) (w : World) (X1 : Hid (w.heap[j]? = some (.cells #[.int .i64 a, .int .i64 b, .slice A xs.length c, v3, v4, v5, v6, v7] 41)))
    (X : Hid (RdF w A xs)) (hk : xs[k]? = some (p, q)) (_hn : xs.length ≤ 1048576) (h1 : okB a b = true) (ht : okB k 1 = true) (h2 : okB p q = true) (g1 : n1B a b k = true) (g2 : mk2 a b k p q = true) :
    Calls Tryz.prog 91 #[.pointer (some ⟨j, 0, none⟩), .int .i64 k] w fun e w' => e = .returned (.tuple #[fr (mkP a b k p q) (mkQ a b k p q), .int .i64 0]) ∧ Gr w w' := by
  have hlt := (List.getElem?_eq_some_iff.1 hk).1
  obtain ⟨ad, rfl, c1, c2⟩ := X.out k p q hk
  have C1 := hid c1; have C2 := hid c2
  have h1 := hid h1; have ht := hid ht; have h2 := hid h2; have g1 := hid g1; have g2 := hid g2
  clear hk c1 c2
  go_enter Tryz.func91, Tryz.ntmps91
  obtain ⟨_, _, _, _, _, _, _, _⟩ := cells8 X1.out
  have _ := fz X1.out
  have _ := ltb X1.out
  go_wp2_with fail
  refine wp_reg1s #[.int .i64 0, .int .i64 0] 12 10 6 11 16 (by kernel_rfl) (by kernel_rfl) rfl rfl (by simp) rfl rfl (by decide) (fun _ _ => by kernel_rfl) (by kernel_rfl) ?_
  apply Exists.intro; apply Exists.intro
  refine ⟨fun wb hb => ?_, ?_⟩
  · obtain ⟨y0, _, _⟩ := alloc1 (Gr.refl _)
    obtain ⟨_, _⟩ := hb.at2 y0
    clear y0
    obtain ⟨_, _, _, _, _, _, _, _⟩ := hb.at8 (((Gr.refl _).al _).keep X1.out)
    simp only [headOps, List.contains, List.elem, Nat.reduceAdd, Nat.reduceBEq, reduceIte, Bool.false_eq_true, dumOp]
    repeat (first | go_big_quiet_step (first | (go_at_call 53; exact Calls.of_gr (swhole1 _ _)) | (go_at_call 126; exact Calls.of_gr (mulw_t a b k _ h1.out ht.out g1.out))) | quiet_step (fail))
    exact wpQuiet_nil rfl
  refine ⟨rfl, ⟨rfl, by simp [Value.oneCell']⟩, fun w1 b1 hg1 _ xb1 => ?_⟩
  obtain ⟨x1_0, hz1, g1⟩ := alloc1 hg1
  have x1_1 := g1.keep X1.out
  obtain ⟨_, _⟩ := cells2 x1_0
  have _ := fz x1_0
  have _ := ltb x1_0
  obtain ⟨_, _, _, _, _, _, _, _⟩ := cells8 x1_1
  have _ := fz x1_1
  have _ := ltb x1_1
  obtain ⟨_, _⟩ := cells2 xb1
  have _ := fz xb1
  have _ := ltb xb1
  have X1_0 := hid x1_0; clear x1_0
  have X1_1 := hid x1_1; clear x1_1
  have Xb1 := hid xb1; clear xb1
  have G1 := hid (g1)
  clear hg1 g1
  go_wp2_with fail
  refine wp_reg0 11 (by kernel_rfl) (by kernel_rfl) ?_
  apply Exists.intro
  refine ⟨fun wb hb => ?_, ?_⟩
  · obtain ⟨_, _⟩ := hb.at2 X1_0.out
    obtain ⟨_, _, _, _, _, _, _, _⟩ := hb.at8 X1_1.out
    obtain ⟨_, _⟩ := hb.at2 Xb1.out
    have hg := G1.out.trans hb
    have _ := hg.atF C1.out; have _ := hg.atF C2.out
    clear hg
    simp only [headOps, List.contains, List.elem, reduceIte, Bool.false_eq_true]
    repeat (first | go_big_quiet_step (first | (go_at_call 127; exact Calls.of_gr (saddm_t a b k p q _ h2.out g1.out g2.out))) | quiet_step (fail))
    exact wpQuiet_nil rfl
  intro w2 hg2
  have x2_1 := hg2.keep X1_0.out
  have x2_2 := hg2.keep X1_1.out
  have x2_3 := hg2.keep Xb1.out
  obtain ⟨_, _⟩ := cells2 x2_1
  have _ := fz x2_1
  have _ := ltb x2_1
  obtain ⟨_, _, _, _, _, _, _, _⟩ := cells8 x2_2
  have _ := fz x2_2
  have _ := ltb x2_2
  obtain ⟨_, _⟩ := cells2 x2_3
  have _ := fz x2_3
  have _ := ltb x2_3
  have X2_1 := hid x2_1; clear x2_1
  have X2_2 := hid x2_2; clear x2_2
  have X2_3 := hid x2_3; clear x2_3
  have G2 := hid (G1.out.trans hg2)
  clear hg2
  go_wp2
  refine bodyPost_ret (v := .tuple #[fr (mkP a b k p q) (mkQ a b k p q), .int .i64 0]) (by simp [results, Tryz.results91, go_sem, *]) rfl ⟨rfl, ?_⟩
  exact ((G2.out).setCell (by simp <;> omega) _).setCell (by simp <;> omega) _
end Go.Proofs.YtgfopfomhgfcaaaGreatDoor
namespace Go.Proofs.YtgfopfomhgfcaaaGreatDoor
open Go.RowKit Go.Sort Go.Shelf
attribute [local go_sem] Oper.semAt_some wide_fn

theorem smark8_no (v3 v4 v5 v6 v7 : Value) (a b : Int) (A : Option Addr) (c k j : Nat) (xs : List (Int × Int)) (p q : Int) (w : World) (X1 : Hid (w.heap[j]? = some (.cells #[.int .i64 a, .int .i64 b, .slice A xs.length c, v3, v4, v5, v6, v7] 41)))
    (X : Hid (RdF w A xs)) (hk : xs[k]? = some (p, q)) (hn : xs.length ≤ 1048576) (h1 : okB a b = true) (ht : okB k 1 = true) (h2 : okB p q = true) (g : mkB a b k p q = false) :
    Calls Tryz.prog 91 #[.pointer (some ⟨j, 0, none⟩), .int .i64 k] w fun e w' => e = .returned (.tuple #[fr 0 0, .int .i64 3]) ∧ Gr w w' := by
  unfold mkB at g
  cases g1 : n1B a b k with
  | false => exact smark8_f1 v3 v4 v5 v6 v7 a b A c k j xs w X1 h1 ht g1
  | true =>
    rw [g1] at g
    exact smark8_f2 v3 v4 v5 v6 v7 a b A c k j xs p q w X1 X hk hn h1 ht h2 g1 (by simpa using g)
theorem smark8_yes (v3 v4 v5 v6 v7 : Value) (a b : Int) (A : Option Addr) (c k j : Nat) (xs : List (Int × Int)) (p q : Int) (w : World) (X1 : Hid (w.heap[j]? = some (.cells #[.int .i64 a, .int .i64 b, .slice A xs.length c, v3, v4, v5, v6, v7] 41)))
    (X : Hid (RdF w A xs)) (hk : xs[k]? = some (p, q)) (hn : xs.length ≤ 1048576) (h1 : okB a b = true) (ht : okB k 1 = true) (h2 : okB p q = true) (g : mkB a b k p q = true) :
    Calls Tryz.prog 91 #[.pointer (some ⟨j, 0, none⟩), .int .i64 k] w fun e w' => e = .returned (.tuple #[fr (mkP a b k p q) (mkQ a b k p q), .int .i64 0]) ∧ Gr w w' := by
  unfold mkB at g
  simp only [Bool.and_eq_true] at g
  exact smark8_t v3 v4 v5 v6 v7 a b A c k j xs p q w X1 X hk hn h1 ht h2 g.1 g.2
/-- All marks of a scale. -/
def mksB (a b : Int) (xs : List (Int × Int)) : List (Int × Int) := xs.mapIdx fun k x => (mkP a b k x.1 x.2, mkQ a b k x.1 x.2)
set_option maxRecDepth 20000 in
set_option maxHeartbeats 1000000 in
/-- spec.l02Ok -/
theorem sScOk8 (v3 v4 v5 v6 v7 : Value) (a b : Int) (A : Option Addr) (c j : Nat) (xs : List (Int × Int)) (w : World) (X1 : Hid (w.heap[j]? = some (.cells #[.int .i64 a, .int .i64 b, .slice A xs.length c, v3, v4, v5, v6, v7] 41))) (X : Hid (RdF w A xs)) (hn : xs.length ≤ 1048576) :
    Calls Tryz.prog 45 #[.pointer (some ⟨j, 0, none⟩)] w fun e w' => e = .returned (.bool (sclB a b xs)) ∧ Gr w w' := by
  unfold sclB
  cases h1 : withinB a b 1000 with
  | false =>
    have HW := hid fun w => (swithin a b 1000 w ok1000)
    rw [h1] at HW
    go_enter Tryz.func45, Tryz.ntmps45
    obtain ⟨_, _, _, _, _, _, _, _⟩ := cells8 X1.out
    have _ := fz X1.out
    have _ := ltb X1.out
    go_wp2_with fail
    refine (HW.out _).mono ?_
    rintro e w1 ⟨rfl, hg1⟩
    have x1_1 := hg1.keep X1.out
    obtain ⟨_, _, _, _, _, _, _, _⟩ := cells8 x1_1
    have _ := fz x1_1
    have _ := ltb x1_1
    have X1_1 := hid x1_1; clear x1_1
    have G1 := hid (hg1)
    clear hg1
    go_wp2
    go_ret
    exact ⟨rfl, G1.out⟩
  | true =>
    have HW := hid fun w => (swithin a b 1000 w ok1000)
    rw [h1] at HW
    have ho := hid (within_ok h1)
    clear h1
    cases h2 : inB (xs.length : Int) 2 60 with
    | false =>
      have h2 := hid h2
      go_enter Tryz.func45, Tryz.ntmps45
      obtain ⟨_, _, _, _, _, _, _, _⟩ := cells8 X1.out
      have _ := fz X1.out
      have _ := ltb X1.out
      go_wp2_with fail
      refine (HW.out _).mono ?_
      rintro e w1 ⟨rfl, hg1⟩
      have x1_1 := hg1.keep X1.out
      obtain ⟨_, _, _, _, _, _, _, _⟩ := cells8 x1_1
      have _ := fz x1_1
      have _ := ltb x1_1
      have X1_1 := hid x1_1; clear x1_1
      have G1 := hid (hg1)
      clear hg1
      go_wp2_with fail
      refine (in_f _ _ _ _ h2.out).mono ?_
      rintro e w2 ⟨rfl, hg2⟩
      have x2_1 := hg2.keep X1_1.out
      obtain ⟨_, _, _, _, _, _, _, _⟩ := cells8 x2_1
      have _ := fz x2_1
      have _ := ltb x2_1
      have X2_1 := hid x2_1; clear x2_1
      have G2 := hid (G1.out.trans hg2)
      clear hg2
      go_wp2
      go_ret
      exact ⟨rfl, G2.out⟩
    | true =>
      obtain ⟨l1, l2⟩ := in_bd h2
      have h2 := hid h2
      obtain ⟨r, hr⟩ : ∃ r, allE a b 0 xs = r := ⟨_, rfl⟩
      rw [hr]
      have HR := hid hr
      clear hr
      go_enter Tryz.func45, Tryz.ntmps45
      obtain ⟨_, _, _, _, _, _, _, _⟩ := cells8 X1.out
      have _ := fz X1.out
      have _ := ltb X1.out
      go_wp2_with fail
      refine (HW.out _).mono ?_
      rintro e w1 ⟨rfl, hg1⟩
      have x1_1 := hg1.keep X1.out
      obtain ⟨_, _, _, _, _, _, _, _⟩ := cells8 x1_1
      have _ := fz x1_1
      have _ := ltb x1_1
      have X1_1 := hid x1_1; clear x1_1
      have G1 := hid (hg1)
      clear hg1
      go_wp2_with fail
      refine (in_t _ _ _ _ h2.out).mono ?_
      rintro e w2 ⟨rfl, hg2⟩
      have x2_1 := hg2.keep X1_1.out
      obtain ⟨_, _, _, _, _, _, _, _⟩ := cells8 x2_1
      have _ := fz x2_1
      have _ := ltb x2_1
      have X2_1 := hid x2_1; clear x2_1
      have G2 := hid (G1.out.trans hg2)
      clear hg2
      go_wp2_with fail
      go_loopw [3] (fun u wr => ∃ (k : Nat), u = .int .i64 (k : Int) ∧ k ≤ xs.length ∧ Gr w wr ∧ ∀ (i : Nat) (p q : Int), i < k → xs[i]? = some (p, q) → scE a b i p q = true) (fun u _ => xs.length - (intOf u).toNat)
      case atStart => exact ⟨0, rfl, by omega, G2.out, fun i p q h => by omega⟩
      case round =>
        obtain ⟨k, rfl, hk, g0, hall⟩ := hrel
        have Y1 := hid (g0.keep X1.out); have HX := hid (X.out.keep g0)
        have GW := hid g0; have HALL := hid hall
        clear g0 hall
        by_cases hlt : k < xs.length
        · obtain ⟨⟨p, q⟩, hpq⟩ : ∃ pq, xs[k]? = some pq := ⟨xs[k], List.getElem?_eq_getElem _⟩
          obtain ⟨ad, rfl, c1, c2⟩ := HX.out k p q hpq
          have HPQ := hid hpq; clear hpq
          cases hx : okB p q with
          | false =>
            have e : allE a b 0 xs = false := allE_no HPQ.out (by unfold scE; rw [hx]; rfl)
            have HX2 := hid hx
            clear hx
            obtain ⟨_, _, _, _, _, _, _, _⟩ := cells8 Y1.out
            have _ := fz Y1.out
            have _ := ltb Y1.out
            go_wp2_with fail
            refine wp_reg0 23 (by kernel_rfl) (by kernel_rfl) ?_
            apply Exists.intro
            refine ⟨fun wb hb => ?_, ?_⟩
            · obtain ⟨_, _, _, _, _, _, _, _⟩ := hb.at8 (((Gr.refl _).al _).keep Y1.out)
              obtain ⟨_, _⟩ := hb.at2 (alloc1 (Gr.refl _)).1
              simp only [headOps, List.contains, List.elem, reduceIte, Bool.false_eq_true]
              repeat (first | go_big_quiet_step (first | (go_at_call 89; exact Calls.of_gr (sok_f _ _ _ HX2.out))) | quiet_step (fail))
              exact wpQuiet_nil rfl
            intro w1 hg1
            obtain ⟨x1_0, hz1, g1⟩ := alloc1 hg1
            have x1_1 := g1.keep Y1.out
            obtain ⟨_, _, _, _, _, _, _, _⟩ := cells8 x1_1
            have _ := fz x1_1
            have _ := ltb x1_1
            obtain ⟨_, _⟩ := cells2 x1_0
            have _ := fz x1_0
            have _ := ltb x1_0
            have X1_1 := hid x1_1; clear x1_1
            have X1_0 := hid x1_0; clear x1_0
            have G1 := hid (GW.out.trans g1)
            clear hg1 g1
            go_wp2
            go_ret
            exact ⟨ret_bool (by rw [← HR.out, e]; simp), G1.out⟩
          | true =>
            obtain ⟨q0, q1, q2, q3, q4, q5⟩ := quarter_bd ho.out hx
            obtain ⟨_, _, d3, d4⟩ := okB_bd hx
            have HA := hid fun w => (abs_any p w (by omega) (by omega))
            have hkk : (k : Int) ≤ 60 := by omega
            have ht := hid (ok_whole (t := k) (by omega) (by omega))
            have HX2 := hid hx
            clear hx d3 d4
            cases hq : qtB a b p q with
            | false =>
              have e : allE a b 0 xs = false := allE_no HPQ.out (by unfold scE; rw [HX2.out, hq]; rfl)
              have hq1 : decide (a * q < 4 * absI p * b) = true := by unfold qtB at hq; simp at hq ⊢; exact hq
              unfold absI at *
              clear hq
              obtain ⟨_, _, _, _, _, _, _, _⟩ := cells8 Y1.out
              have _ := fz Y1.out
              have _ := ltb Y1.out
              go_wp2_with fail
              refine wp_reg0 23 (by kernel_rfl) (by kernel_rfl) ?_
              apply Exists.intro
              refine ⟨fun wb hb => ?_, ?_⟩
              · obtain ⟨_, _, _, _, _, _, _, _⟩ := hb.at8 (((Gr.refl _).al _).keep Y1.out)
                obtain ⟨_, _⟩ := hb.at2 (alloc1 (Gr.refl _)).1
                simp only [headOps, List.contains, List.elem, reduceIte, Bool.false_eq_true]
                repeat (first | go_big_quiet_step (first | (go_at_call 89; exact Calls.of_gr (sok_t _ _ _ HX2.out)) | (go_at_call 90; exact Calls.of_same (HA.out _))) | quiet_step (fail))
                exact wpQuiet_nil rfl
              intro w1 hg1
              obtain ⟨x1_0, hz1, g1⟩ := alloc1 hg1
              have x1_1 := g1.keep Y1.out
              obtain ⟨_, _, _, _, _, _, _, _⟩ := cells8 x1_1
              have _ := fz x1_1
              have _ := ltb x1_1
              obtain ⟨_, _⟩ := cells2 x1_0
              have _ := fz x1_0
              have _ := ltb x1_0
              have X1_1 := hid x1_1; clear x1_1
              have X1_0 := hid x1_0; clear x1_0
              have G1 := hid (GW.out.trans g1)
              clear hg1 g1
              go_wp2
              go_ret
              exact ⟨ret_bool (by rw [← HR.out, e]; simp), G1.out⟩
            | true =>
              have hq1 : decide (a * q < 4 * absI p * b) = false := by unfold qtB at hq; simp at hq ⊢; exact hq
              have HQ := hid hq
              clear hq
              cases hm : mkB a b k p q with
              | false =>
                have e : allE a b 0 xs = false := allE_no HPQ.out (by unfold scE; rw [HX2.out, HQ.out, hm]; rfl)
                have HM := hid hm; clear hm
                have HMK := hid fun (w' : World) (Z1 : Hid (w'.heap[j]? = some (.cells #[.int .i64 a, .int .i64 b, .slice (some ad) xs.length c, v3, v4, v5, v6, v7] 41))) (Z : Hid (RdF w' (some ad) xs)) => smark8_no v3 v4 v5 v6 v7 a b (some ad) c k j xs p q w' Z1 Z HPQ.out (by omega) ho.out ht.out HX2.out HM.out
                unfold absI at *
                obtain ⟨_, _, _, _, _, _, _, _⟩ := cells8 Y1.out
                have _ := fz Y1.out
                have _ := ltb Y1.out
                go_wp2_with fail
                refine wp_reg0 23 (by kernel_rfl) (by kernel_rfl) ?_
                apply Exists.intro
                refine ⟨fun wb hb => ?_, ?_⟩
                · obtain ⟨_, _, _, _, _, _, _, _⟩ := hb.at8 (((Gr.refl _).al _).keep Y1.out)
                  obtain ⟨_, _⟩ := hb.at2 (alloc1 (Gr.refl _)).1
                  simp only [headOps, List.contains, List.elem, reduceIte, Bool.false_eq_true]
                  repeat (first | go_big_quiet_step (first | (go_at_call 89; exact Calls.of_gr (sok_t _ _ _ HX2.out)) | (go_at_call 90; exact Calls.of_same (HA.out _))) | quiet_step (fail))
                  exact wpQuiet_nil rfl
                intro w1 hg1
                obtain ⟨x1_0, hz1, g1⟩ := alloc1 hg1
                have x1_1 := g1.keep Y1.out
                obtain ⟨_, _, _, _, _, _, _, _⟩ := cells8 x1_1
                have _ := fz x1_1
                have _ := ltb x1_1
                obtain ⟨_, _⟩ := cells2 x1_0
                have _ := fz x1_0
                have _ := ltb x1_0
                have X1_1 := hid x1_1; clear x1_1
                have X1_0 := hid x1_0; clear x1_0
                have G1 := hid (GW.out.trans g1)
                clear hg1 g1
                go_wp2_with fail
                refine (HMK.out _ (hid X1_1.out) (hid (X.out.keep G1.out))).mono ?_
                rintro e w2 ⟨rfl, hg2⟩
                have x2_1 := hg2.keep X1_1.out
                have x2_2 := hg2.keep X1_0.out
                obtain ⟨_, _, _, _, _, _, _, _⟩ := cells8 x2_1
                have _ := fz x2_1
                have _ := ltb x2_1
                obtain ⟨_, _⟩ := cells2 x2_2
                have _ := fz x2_2
                have _ := ltb x2_2
                have X2_1 := hid x2_1; clear x2_1
                have X2_2 := hid x2_2; clear x2_2
                have G2 := hid (G1.out.trans hg2)
                clear hg2
                go_wp2
                go_ret
                exact ⟨ret_bool (by rw [← HR.out, e]; simp), (G2.out).al _⟩
              | true =>
                have HM := hid hm; clear hm
                have HMK := hid fun (w' : World) (Z1 : Hid (w'.heap[j]? = some (.cells #[.int .i64 a, .int .i64 b, .slice (some ad) xs.length c, v3, v4, v5, v6, v7] 41))) (Z : Hid (RdF w' (some ad) xs)) => smark8_yes v3 v4 v5 v6 v7 a b (some ad) c k j xs p q w' Z1 Z HPQ.out (by omega) ho.out ht.out HX2.out HM.out
                have hqq : qtB a b p q = true := HQ.out
                have HE : Hid (scE a b k p q = true) := hid (by unfold scE; rw [HX2.out, hqq, HM.out]; rfl)
                clear hqq
                unfold absI at *
                obtain ⟨_, _, _, _, _, _, _, _⟩ := cells8 Y1.out
                have _ := fz Y1.out
                have _ := ltb Y1.out
                go_wp2_with fail
                refine wp_reg0 23 (by kernel_rfl) (by kernel_rfl) ?_
                apply Exists.intro
                refine ⟨fun wb hb => ?_, ?_⟩
                · obtain ⟨_, _, _, _, _, _, _, _⟩ := hb.at8 (((Gr.refl _).al _).keep Y1.out)
                  obtain ⟨_, _⟩ := hb.at2 (alloc1 (Gr.refl _)).1
                  simp only [headOps, List.contains, List.elem, reduceIte, Bool.false_eq_true]
                  repeat (first | go_big_quiet_step (first | (go_at_call 89; exact Calls.of_gr (sok_t _ _ _ HX2.out)) | (go_at_call 90; exact Calls.of_same (HA.out _))) | quiet_step (fail))
                  exact wpQuiet_nil rfl
                intro w1 hg1
                obtain ⟨x1_0, hz1, g1⟩ := alloc1 hg1
                have x1_1 := g1.keep Y1.out
                obtain ⟨_, _, _, _, _, _, _, _⟩ := cells8 x1_1
                have _ := fz x1_1
                have _ := ltb x1_1
                obtain ⟨_, _⟩ := cells2 x1_0
                have _ := fz x1_0
                have _ := ltb x1_0
                have X1_1 := hid x1_1; clear x1_1
                have X1_0 := hid x1_0; clear x1_0
                have G1 := hid (GW.out.trans g1)
                clear hg1 g1
                go_wp2_with fail
                refine (HMK.out _ (hid X1_1.out) (hid (X.out.keep G1.out))).mono ?_
                rintro e w2 ⟨rfl, hg2⟩
                have x2_1 := hg2.keep X1_1.out
                have x2_2 := hg2.keep X1_0.out
                obtain ⟨_, _, _, _, _, _, _, _⟩ := cells8 x2_1
                have _ := fz x2_1
                have _ := ltb x2_1
                obtain ⟨_, _⟩ := cells2 x2_2
                have _ := fz x2_2
                have _ := ltb x2_2
                have X2_1 := hid x2_1; clear x2_1
                have X2_2 := hid x2_2; clear x2_2
                have G2 := hid (G1.out.trans hg2)
                clear hg2
                go_wp2_with fail
                refine ⟨⟨k + 1, by simp, by omega, G2.out.al _, fun i p' q' hi hp' => ?_⟩, by simp [intOf]; omega⟩
                by_cases he : i = k
                · subst he
                  have := HPQ.out
                  rw [hp'] at this
                  cases this
                  exact HE.out
                · exact HALL.out i p' q' (by omega) hp'
        · have hke : k = xs.length := by omega
          have e : allE a b 0 xs = true := allE_yes (fun i p q hi hp => HALL.out i p q (by omega) hp)
          obtain ⟨_, _, _, _, _, _, _, _⟩ := cells8 Y1.out
          have _ := fz Y1.out
          have _ := ltb Y1.out
          go_wp2
          go_ret
          exact ⟨ret_bool (by rw [← HR.out, e]; simp), GW.out⟩
set_option maxRecDepth 20000 in
set_option maxHeartbeats 400000 in
theorem sVernAt8 (v0 v1 v2 v5 v6 v7 : Value) (n : Int) (b : Bool) (w : World) (k : Nat) (X1 : Hid (w.heap[k]? = some (.cells #[v0, v1, v2, .int .i64 n, .bool b, v5, v6, v7] 41))) :
    Calls Tryz.prog 68 #[.pointer (some ⟨k, 3, none⟩)] w fun e w' => e = .returned (.bool (inB n 2 40)) ∧ Gr w w' := by
  go_enter Tryz.func68, Tryz.ntmps68
  obtain ⟨_, _, _, _, _, _, _, _⟩ := cells8 X1.out
  have _ := fz X1.out
  have _ := ltb X1.out
  go_wp2_with (go_at_call 54; refine (in_any _ _ _ _).mono ?_; rintro e w1 ⟨rfl, rfl⟩)
  go_ret
  exact ⟨rfl, Gr.refl _⟩
end Go.Proofs.YtgfopfomhgfcaaaGreatDoor
