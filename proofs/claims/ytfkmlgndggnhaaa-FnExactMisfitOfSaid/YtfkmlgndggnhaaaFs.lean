/- Slices of fractions: one that the call made, known whole; how they come from the laws' values; they are compared. -/
import Derived.Test.YtfkmlgndggnhaaaQ
import Derived.Test.YtfkmlgndggnhaaaT
import Derived.Lib.SmallJoins
import Derived.Laws.MakeOwn
namespace Go.Proofs.Ytfkmlgndggnhaaa
open Go.RowKit Go.Sort

def flatL (xs : List (Int × Int)) : List Value := xs.flatMap fun x => [.int .i64 x.1, .int .i64 x.2]
def flatA (xs : List (Int × Int)) : Array Value := (flatL xs).toArray
theorem flatL_len : ∀ xs : List (Int × Int), (flatL xs).length = xs.length * 2
  | [] => rfl
  | x :: r => by
    have := flatL_len r
    simp only [flatL, List.flatMap_cons, List.length_append, List.length_cons, List.length_nil] at this ⊢
    omega
theorem flatL_get : ∀ (xs : List (Int × Int)) (k : Nat) (p q : Int), xs[k]? = some (p, q) → (flatL xs)[k * 2]? = some (.int .i64 p) ∧ (flatL xs)[k * 2 + 1]? = some (.int .i64 q)
  | [], k, p, q, h => by simp at h
  | x :: r, 0, p, q, h => by
    simp at h
    subst h
    simp [flatL]
  | x :: r, k + 1, p, q, h => by
    have := flatL_get r k p q (by simpa using h)
    have e : flatL (x :: r) = .int .i64 x.1 :: .int .i64 x.2 :: flatL r := by simp [flatL]
    rw [e, show (k + 1) * 2 = k * 2 + 1 + 1 by omega]
    simpa using this
theorem flatL_set : ∀ (xs : List (Int × Int)) (k : Nat) (p q : Int), ((flatL xs).set (k * 2) (.int .i64 p)).set (k * 2 + 1) (.int .i64 q) = flatL (xs.set k (p, q))
  | [], k, p, q => by simp [flatL]
  | x :: r, 0, p, q => by simp [flatL]
  | x :: r, k + 1, p, q => by
    have := flatL_set r k p q
    have e : ∀ (x : Int × Int) (r : List (Int × Int)), flatL (x :: r) = .int .i64 x.1 :: .int .i64 x.2 :: flatL r := fun x r => by simp [flatL]
    show ((flatL (x :: r)).set ((k + 1) * 2) _).set ((k + 1) * 2 + 1) _ = flatL (x :: r.set k (p, q))
    rw [e, e, show (k + 1) * 2 = k * 2 + 1 + 1 by omega]
    simpa using this
theorem flatA_set (xs : List (Int × Int)) (k : Nat) (p q : Int) : ((flatA xs).setIfInBounds (k * 2) (.int .i64 p)).setIfInBounds (k * 2 + 1) (.int .i64 q) = flatA (xs.set k (p, q)) := by
  unfold flatA
  rw [← flatL_set]
  simp
theorem flat_cells {w : World} {g k : Nat} {T : TypeId} {xs : List (Int × Int)} {p q : Int} (h : w.heap[g]? = some (.cells (flatA xs) T)) (hk : xs[k]? = some (p, q)) :
    w.cell? ⟨g, k * 2, none⟩ = some (.int .i64 p) ∧ w.cell? ⟨g, k * 2 + 1, none⟩ = some (.int .i64 q) := by
  have := flatL_get xs k p q hk
  simp [World.cell?, h, flatA, this]
theorem flat_store {w : World} {g k : Nat} {T : TypeId} {xs : List (Int × Int)} (p q : Int) (h : w.heap[g]? = some (.cells (flatA xs) T)) :
    ((w.setCell ⟨g, k * 2, none⟩ (.int .i64 p)).setCell ⟨g, k * 2 + 1, none⟩ (.int .i64 q)).heap[g]? = some (.cells (flatA (xs.set k (p, q))) T) := by
  have e1 := Joins.block_setCell (i := k * 2) h (.int .i64 p)
  have e2 := Joins.block_setCell (i := k * 2 + 1) e1 (.int .i64 q)
  rw [flatA_set] at e2
  exact e2
theorem flat_at {w wb : World} {g k : Nat} {T : TypeId} {xs : List (Int × Int)} {p q : Int} (hb : Gr w wb) (h : w.heap[g]? = some (.cells (flatA xs) T)) (hk : xs[k]? = some (p, q)) :
    (∀ (m : Nat) (os : Array Obj), (grow (wb.drewN m) os).cell? ⟨g, k * 2, none⟩ = some (.int .i64 p)) ∧ (∀ (m : Nat) (os : Array Obj), (grow (wb.drewN m) os).cell? ⟨g, k * 2 + 1, none⟩ = some (.int .i64 q)) :=
  have hl := ltb h
  have c := flat_cells h hk
  ⟨fun m os => (hb.at m os g _ hl).trans c.1, fun m os => (hb.at m os g _ hl).trans c.2⟩
theorem made_zeros (n : Nat) : madeCells #[.int .i64 0, .int .i64 0] (n * 2) = flatA (List.replicate n (0, 0)) := by
  refine Array.ext_getElem? fun i => ?_
  by_cases hi : i < n * 2
  · have g : (flatA (List.replicate n ((0 : Int), (0 : Int))))[i]? = some (.int .i64 0) := by
      have hk : (List.replicate n ((0 : Int), (0 : Int)))[i / 2]? = some (0, 0) := by simp [List.getElem?_replicate]; omega
      have := flatL_get _ _ _ _ hk
      have h2 : (flatL (List.replicate n ((0 : Int), (0 : Int))))[i]? = some (.int .i64 0) := by
        rcases Nat.mod_two_eq_zero_or_one i with h | h
        · have e : i / 2 * 2 = i := by omega
          rw [e] at this; exact this.1
        · have e : i / 2 * 2 + 1 = i := by omega
          rw [e] at this; exact this.2
      simpa [flatA] using h2
    rw [g]
    unfold madeCells
    rcases Nat.mod_two_eq_zero_or_one i with h | h <;> simp [hi, h]
  · rw [Array.getElem?_eq_none (by rw [size_madeCells]; omega), Array.getElem?_eq_none (by simp [flatA, flatL_len]; omega)]
end Go.Proofs.Ytfkmlgndggnhaaa
