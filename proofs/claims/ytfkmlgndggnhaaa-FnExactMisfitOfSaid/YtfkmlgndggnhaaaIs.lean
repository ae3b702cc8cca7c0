/- Slices of integers: one that the call made, known whole; how they come from the laws' values. -/
import Derived.Test.YtfkmlgndggnhaaaB0
import Derived.Test.YtfkmlgndggnhaaaC0
import Derived.Test.YtfkmlgndggnhaaaSet
import Derived.Lib.SmallJoins
import Derived.Laws.MakeOwn
namespace Go.Proofs.Ytfkmlgndggnhaaa
open Go.RowKit Go.Sort

def intA (xs : List Int) : Array Value := (xs.map (.int .i64 ·)).toArray
theorem intA_size (xs : List Int) : (intA xs).size = xs.length := by simp [intA]
theorem intA_get {xs : List Int} {k : Nat} {p : Int} (h : xs[k]? = some p) : (intA xs)[k]? = some (.int .i64 p) := by simp [intA, h]
theorem intA_set (xs : List Int) (k : Nat) (p : Int) : (intA xs).setIfInBounds k (.int .i64 p) = intA (xs.set k p) := by
  unfold intA
  simp [List.map_set]
theorem int_cell {w : World} {g k : Nat} {T : TypeId} {xs : List Int} {p : Int} (h : w.heap[g]? = some (.cells (intA xs) T)) (hk : xs[k]? = some p) :
    w.cell? ⟨g, k, none⟩ = some (.int .i64 p) := by
  have := intA_get hk
  simp [World.cell?, h, this]
theorem int_store {w : World} {g k : Nat} {T : TypeId} {xs : List Int} (p : Int) (h : w.heap[g]? = some (.cells (intA xs) T)) :
    (w.setCell ⟨g, k, none⟩ (.int .i64 p)).heap[g]? = some (.cells (intA (xs.set k p)) T) := by
  have e1 := Joins.block_setCell (i := k) h (.int .i64 p)
  rw [intA_set] at e1
  exact e1
theorem int_at {w wb : World} {g k : Nat} {T : TypeId} {xs : List Int} {p : Int} (hb : Gr w wb) (h : w.heap[g]? = some (.cells (intA xs) T)) (hk : xs[k]? = some p) :
    (∀ (m : Nat) (os : Array Obj), (grow (wb.drewN m) os).cell? ⟨g, k, none⟩ = some (.int .i64 p)) :=
  have hl := ltb h
  fun m os => (hb.at m os g _ hl).trans (int_cell h hk)
theorem made_zeros1 (n : Nat) : madeCells #[.int .i64 0] n = intA (List.replicate n 0) := by
  refine Array.ext_getElem? fun i => ?_
  by_cases hi : i < n
  · have g : (intA (List.replicate n (0 : Int)))[i]? = some (.int .i64 0) := intA_get (by simp [hi])
    rw [g]
    unfold madeCells
    simp [hi, Nat.mod_one]
  · rw [Array.getElem?_eq_none (by rw [size_madeCells]; omega), Array.getElem?_eq_none (by simp [intA]; omega)]

/-- A slice of the laws' integers, as it came in. -/
def RawI (w : World) (v : Value) (xs : List Int) : Prop :=
  (v = .slice none 0 0 ∧ xs = []) ∨ ∃ (ad : Addr) (cap : Nat), v = .slice (some ad) xs.length cap ∧
    ∀ (k : Nat) (p : Int), xs[k]? = some p → w.cell? (ad.add k) = some (.int .i64 p)
theorem addI_block (a : Addr) (n : Nat) : (a.add n).block = a.block := by unfold Addr.add; split <;> rfl
theorem Gr.cellI {w w' : World} (h : Gr w w') {a : Addr} (hb : a.block < w.heap.size) : w'.cell? a = w.cell? a := h.below.cell hb
theorem rawI_lt {w : World} {ad : Addr} {n : Nat} {v : Value} (h : w.cell? (ad.add n) = some v) : ad.block < w.heap.size := by
  have h := World.block_lt_of_cell? _ _ h
  rwa [addI_block] at h
theorem RawI.keep {w w' : World} {v : Value} {xs : List Int} (h : RawI w v xs) (hg : Gr w w') : RawI w' v xs := by
  rcases h with h | ⟨ad, cap, h1, h3⟩
  · exact .inl h
  · refine .inr ⟨ad, cap, h1, fun k p hk => ?_⟩
    have c1 := h3 k p hk
    exact (hg.cellI (by rw [addI_block]; exact rawI_lt c1)).trans c1
theorem takeI_step {xs : List Int} {k : Nat} {x : Int} (h : xs[k]? = some x) :
    (xs.take k ++ List.replicate (xs.length - k) 0).set k x = xs.take (k + 1) ++ List.replicate (xs.length - (k + 1)) 0 := by
  have hk : k < xs.length := (List.getElem?_eq_some_iff.1 h).1
  have hl : (xs.take k).length = k := by simp; omega
  rw [List.set_append_right _ _ (by omega), hl, Nat.sub_self]
  rw [show xs.length - k = (xs.length - (k + 1)) + 1 by omega, List.replicate_succ, List.set_cons_zero]
  rw [List.take_add_one, h]
  simp
theorem takeI_get {xs : List Int} {k : Nat} (hk : k < xs.length) : (xs.take k ++ List.replicate (xs.length - k) (0 : Int))[k]? = some 0 := by
  have hl : (xs.take k).length = k := by simp; omega
  rw [List.getElem?_append_right (by omega), hl, Nat.sub_self, List.getElem?_replicate, if_pos (by omega)]
abbrev il (g n cap : Nat) : Value := .slice (some ⟨g, 0, none⟩) n cap
end Go.Proofs.Ytfkmlgndggnhaaa
