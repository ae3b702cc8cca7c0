/- WALKS: CorrectScale, of the program. -/
import Derived.Test.YtpadjkgbeijkpaaDoorEg
import Derived.Test.YtpadjkgbeijkpaaDoorSe
namespace Go.Proofs.YtpadjkgbeijkpaaDoor
open Go.RowKit Go.Sort

/-- The errors of a scale, each without the one that is taken away. -/
def csL (xs ys : List (Int × Int)) : List (Int × Int) := (xs.zip ys).map fun z => (sbP z.1.1 z.1.2 z.2.1 z.2.2, sbQ z.1.1 z.1.2 z.2.1 z.2.2)
def AllC (xs ys : List (Int × Int)) : Prop := ∀ (k : Nat) (p q s t : Int), xs[k]? = some (p, q) → ys[k]? = some (s, t) → sbB p q s t = true
theorem csL_len {xs ys : List (Int × Int)} (h : ys.length = xs.length) : (csL xs ys).length = xs.length := by simp [csL, h]
theorem csL_get {xs ys : List (Int × Int)} {k : Nat} {p q s t : Int} (h : xs[k]? = some (p, q)) (h2 : ys[k]? = some (s, t)) : (csL xs ys)[k]? = some (sbP p q s t, sbQ p q s t) := by
  unfold csL
  rw [List.getElem?_map, (List.getElem?_zip_eq_some (z := ((p, q), (s, t)))).2 ⟨h, h2⟩]
  rfl
theorem csL_take {xs ys : List (Int × Int)} {k : Nat} {p q s t : Int} (h : xs[k]? = some (p, q)) (h2 : ys[k]? = some (s, t)) : (csL xs ys).take (k + 1) = (csL xs ys).take k ++ [(sbP p q s t, sbQ p q s t)] := by
  rw [List.take_add_one, csL_get h h2]
  rfl
/-- The errors, the first k of them corrected. -/
def ycs (xs ys : List (Int × Int)) (k : Nat) : List (Int × Int) := (csL xs ys).take k ++ xs.drop k
theorem ycs_len {xs ys : List (Int × Int)} {k : Nat} (h : k ≤ xs.length) (hl : ys.length = xs.length) : (ycs xs ys k).length = xs.length := by
  unfold ycs
  rw [List.length_append, List.length_take, csL_len hl, List.length_drop]
  omega
theorem ycs_get {xs ys : List (Int × Int)} {k : Nat} {p q : Int} (h : xs[k]? = some (p, q)) (hl : ys.length = xs.length) : (ycs xs ys k)[k]? = some (p, q) := by
  have hk : k < xs.length := (List.getElem?_eq_some_iff.1 h).1
  have hl : ((csL xs ys).take k).length = k := by rw [List.length_take, csL_len hl]; omega
  unfold ycs
  rw [List.getElem?_append_right (by omega), hl, Nat.sub_self, List.getElem?_drop]
  simpa using h
theorem ycs_set {xs ys : List (Int × Int)} {k : Nat} {p q s t : Int} (h : xs[k]? = some (p, q)) (h2 : ys[k]? = some (s, t)) (hl : ys.length = xs.length) : (ycs xs ys k).set k (sbP p q s t, sbQ p q s t) = ycs xs ys (k + 1) := by
  have hk : k < xs.length := (List.getElem?_eq_some_iff.1 h).1
  have hl : ((csL xs ys).take k).length = k := by rw [List.length_take, csL_len hl]; omega
  unfold ycs
  rw [List.set_append_right _ _ (by omega), hl, Nat.sub_self, csL_take h h2, List.drop_eq_getElem_cons hk, List.set_cons_zero]
  simp
theorem ycs_all {xs ys : List (Int × Int)} (hl : ys.length = xs.length) : ycs xs ys xs.length = csL xs ys := by
  unfold ycs
  rw [List.take_of_length_le (by rw [csL_len hl]; exact Nat.le_refl _)]
  simp
end Go.Proofs.YtpadjkgbeijkpaaDoor
namespace Go.Proofs.YtpadjkgbeijkpaaDoor
open Go.RowKit Go.Sort

end Go.Proofs.YtpadjkgbeijkpaaDoor
namespace Go.Proofs.YtpadjkgbeijkpaaDoor
open Go.RowKit Go.Sort

end Go.Proofs.YtpadjkgbeijkpaaDoor
