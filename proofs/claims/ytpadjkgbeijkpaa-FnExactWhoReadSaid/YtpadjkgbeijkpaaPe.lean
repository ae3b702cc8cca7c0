/- WALKS: ten digits; LastDigits, of the program and of the reference. -/
import Derived.Test.YtpadjkgbeijkpaaB1
import Derived.Test.YtpadjkgbeijkpaaPa
import Derived.Test.YtpadjkgbeijkpaaA
import Derived.Deep.CutRange
namespace Go.Proofs.Ytpadjkgbeijkpaa
open Go.RowKit Go.Sort

abbrev dv (d0 d1 d2 d3 d4 d5 d6 d7 d8 d9 : Int) : Value := .agg #[.int .i64 d0, .int .i64 d1, .int .i64 d2, .int .i64 d3, .int .i64 d4, .int .i64 d5, .int .i64 d6, .int .i64 d7, .int .i64 d8, .int .i64 d9]
theorem list10 {α : Type} {cs : List α} (h : cs.length = 10) : ∃ x0 x1 x2 x3 x4 x5 x6 x7 x8 x9, cs = [x0, x1, x2, x3, x4, x5, x6, x7, x8, x9] := by
  match cs, h with
  | [x0, x1, x2, x3, x4, x5, x6, x7, x8, x9], _ => exact ⟨x0, x1, x2, x3, x4, x5, x6, x7, x8, x9, rfl⟩
/-! the digits -/
def dgI (n : Int) : Nat := n.natAbs % 10
def dgS (ds : List Int) (n : Int) : List Int := ds.set (dgI n) (ds.getD (dgI n) 0 + 1)
def dgt (xs : List Int) : List Int := xs.foldl dgS (List.replicate 10 0)
theorem dgS_len (ds : List Int) (n : Int) : (dgS ds n).length = ds.length := by simp [dgS]
theorem dgt_step {xs : List Int} {k : Nat} {x : Int} (h : xs[k]? = some x) : dgt (xs.take (k + 1)) = dgS (dgt (xs.take k)) x := by
  unfold dgt
  rw [List.take_add_one, h]
  simp [List.foldl_append]
theorem dgt_len' : ∀ (xs : List Int) (ds : List Int), (xs.foldl dgS ds).length = ds.length
  | [], _ => rfl
  | x :: r, ds => by
    have := dgt_len' r (dgS ds x)
    rw [dgS_len] at this
    exact this
theorem dgt_len (xs : List Int) : (dgt xs).length = 10 := by unfold dgt; rw [dgt_len']; simp
theorem dgI_lt (n : Int) : dgI n < 10 := by unfold dgI; omega
/-- No digit is there more often than there are numbers. -/
theorem dgt_bd' : ∀ (xs : List Int) (ds : List Int) (b : Int), (∀ d ∈ ds, 0 ≤ d ∧ d ≤ b) → ∀ d ∈ xs.foldl dgS ds, 0 ≤ d ∧ d ≤ b + xs.length
  | [], ds, b, h => by simpa using h
  | x :: r, ds, b, h => fun d hd => by
    have h2 : ∀ d ∈ dgS ds x, 0 ≤ d ∧ d ≤ b + 1 := fun e he => by
      unfold dgS at he
      rcases List.mem_or_eq_of_mem_set he with h1 | h1
      · have := h e h1; omega
      · by_cases hk : dgI x < ds.length
        · rw [List.getD_eq_getElem?_getD, List.getElem?_eq_getElem hk] at h1
          have := h _ (List.getElem_mem hk)
          simp at h1
          omega
        · rw [List.set_eq_of_length_le (by omega)] at he
          have := h e he; omega
    have := dgt_bd' r (dgS ds x) (b + 1) h2 d hd
    rw [List.length_cons]
    omega
theorem dgt_bd (xs : List Int) : ∀ d ∈ dgt xs, 0 ≤ d ∧ d ≤ (xs.length : Int) := fun d hd => by
  have := dgt_bd' xs (List.replicate 10 0) 0 (fun e he => by have := List.eq_of_mem_replicate he; omega) d hd
  omega
theorem dgt_get (xs : List Int) {k : Nat} (hk : k < 10) : ∃ d, (dgt xs)[k]? = some d ∧ 0 ≤ d ∧ d ≤ (xs.length : Int) := by
  have h : k < (dgt xs).length := by rw [dgt_len]; exact hk
  exact ⟨_, List.getElem?_eq_getElem h, dgt_bd xs _ (List.getElem_mem h)⟩
theorem dgS_of {ds : List Int} {n d : Int} (h : ds[dgI n]? = some d) : dgS ds n = ds.set (dgI n) (d + 1) := by
  unfold dgS
  rw [List.getD_eq_getElem?_getD, h]
  rfl
theorem keepInt {w : World} {g j i : Nat} {a : Value} {o : Obj} (h : w.heap[j]? = some o) (hn : j ≠ g) : (w.setCell ⟨g, i, none⟩ a).heap[j]? = some o := by
  rw [Below.heap_setCell _ _ _ _ hn, h]
end Go.Proofs.Ytpadjkgbeijkpaa
