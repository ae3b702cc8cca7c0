/- WALKS: the values of readings, their mean; MeanDifference, of the program and of the reference. -/
import Derived.Test.YtpadjkgbeijkpaaDoorUn
import Derived.Test.YtpadjkgbeijkpaaDoorPa
import Derived.Test.YtpadjkgbeijkpaaDoorWf
import Derived.Test.YtpadjkgbeijkpaaDoorFw
import Derived.Test.YtpadjkgbeijkpaaDoorIv
namespace Go.Proofs.YtpadjkgbeijkpaaDoor
open Go.RowKit Go.Sort

/-! sums of whole numbers -/
theorem red_one (x : Int) : redP (x * 1) (1 * 1) = x ∧ redQ (x * 1) (1 * 1) = 1 := by
  unfold redP redQ
  simp
theorem ok_whl {x : Int} (h1 : -1000000000 ≤ x) (h2 : x ≤ 1000000000) : okB x 1 = true := by
  rw [okB_iff]
  exact ⟨by omega, by omega, by omega, by omega, by simp⟩
def whl (xs : List Int) : List (Int × Int) := xs.map fun x => (x, 1)
theorem whl_len (xs : List Int) : (whl xs).length = xs.length := by simp [whl]
theorem whl_all {xs : List Int} (h : ∀ x ∈ xs, -2000000 ≤ x ∧ x ≤ 2000000) : (whl xs).all (fun x => okB x.1 x.2) = true := by
  refine List.all_eq_true.2 fun y hy => ?_
  obtain ⟨x, hx, rfl⟩ := List.mem_map.1 hy
  obtain ⟨_, _⟩ := h x hx
  exact ok_whl (by omega) (by omega)
def sumZ (xs : List Int) : Int := xs.foldr (· + ·) 0
theorem sumZ_bd : ∀ xs : List Int, (∀ x ∈ xs, -2000000 ≤ x ∧ x ≤ 2000000) → -(2000000 * (xs.length : Int)) ≤ sumZ xs ∧ sumZ xs ≤ 2000000 * (xs.length : Int)
  | [], _ => by simp [sumZ]
  | x :: r, h => by
    obtain ⟨_, _⟩ := h x (List.mem_cons_self ..)
    have ih := sumZ_bd r fun y hy => h y (List.mem_cons_of_mem _ hy)
    have e : sumZ (x :: r) = x + sumZ r := rfl
    rw [e, List.length_cons]
    omega
theorem sm_whole (xs : List Int) : ∀ (P : Int), (∀ x ∈ xs, -2000000 ≤ x ∧ x ≤ 2000000) → -1000000000 + 2000000 * (xs.length : Int) ≤ P → P ≤ 1000000000 - 2000000 * (xs.length : Int) → sm (whl xs) P 1 = some (P + sumZ xs, 1) := by
  induction xs with
  | nil =>
    intro P _ _ _
    show some (P, 1) = some (P + 0, 1)
    rw [Int.add_zero]
  | cons x r ihr =>
    intro P h h1 h2
    obtain ⟨_, _⟩ := h x (List.mem_cons_self ..)
    rw [List.length_cons] at h1 h2
    have ih := ihr (P + x) (fun y hy => h y (List.mem_cons_of_mem _ hy)) (by omega) (by omega)
    have e : sumZ (x :: r) = x + sumZ r := rfl
    have e2 : whl (x :: r) = (x, 1) :: whl r := rfl
    obtain ⟨r1, r2⟩ := red_one (P + x)
    have e3 : P * 1 + x * 1 = (P + x) * 1 := by omega
    have hk : okB (P + x) 1 = true := ok_whl (by omega) (by omega)
    have e4 : sm ((x, 1) :: whl r) P 1 = if okB (redP (P * 1 + x * 1) (1 * 1)) (redQ (P * 1 + x * 1) (1 * 1)) then sm (whl r) (redP (P * 1 + x * 1) (1 * 1)) (redQ (P * 1 + x * 1) (1 * 1)) else none := rfl
    rw [e, e2, e4, e3, r1, r2, if_pos hk, ih, Int.add_assoc]
end Go.Proofs.YtpadjkgbeijkpaaDoor
namespace Go.Proofs.YtpadjkgbeijkpaaDoor
open Go.RowKit Go.Sort

/-! what is calculated of readings that are checked: a fraction -/
/-! the differences -/
def dfs (xs ys : List Int) : List Int := List.zipWith (· - ·) xs ys
theorem dfs_len {xs ys : List Int} (h : xs.length = ys.length) : (dfs xs ys).length = xs.length := by simp [dfs, h]
theorem dfs_get {xs ys : List Int} {k : Nat} {p q : Int} (h1 : xs[k]? = some p) (h2 : ys[k]? = some q) : (dfs xs ys)[k]? = some (p - q) := by
  simp [dfs, List.getElem?_zipWith, h1, h2]
theorem dfs_bd {xs ys : List Int} (h1 : xs.all okR = true) (h2 : ys.all okR = true) : ∀ x ∈ dfs xs ys, -2000000 ≤ x ∧ x ≤ 2000000 := fun x hx => by
  obtain ⟨k, hk⟩ := List.mem_iff_getElem?.1 hx
  by_cases e1 : k < xs.length
  · by_cases e2 : k < ys.length
    · have g1 := List.getElem?_eq_getElem e1
      have g2 := List.getElem?_eq_getElem e2
      rw [dfs_get g1 g2] at hk
      have b1 := okR_bd (allI_get g1 h1)
      have b2 := okR_bd (allI_get g2 h2)
      have e := Option.some.inj hk
      omega
    · have := (List.getElem?_eq_some_iff.1 hk).1
      simp [dfs] at this
      omega
  · have := (List.getElem?_eq_some_iff.1 hk).1
    simp [dfs] at this
    omega
def ydf (xs ys : List Int) (k : Nat) : List Int := (dfs xs ys).take k ++ xs.drop k
theorem ydf_zero (xs ys : List Int) : ydf xs ys 0 = xs := by simp [ydf]
theorem ydf_len {xs ys : List Int} {k : Nat} (he : xs.length = ys.length) (h : k ≤ xs.length) : (ydf xs ys k).length = xs.length := by simp [ydf, dfs_len he]; omega
theorem ydf_get {xs ys : List Int} {k : Nat} {p : Int} (he : xs.length = ys.length) (h : xs[k]? = some p) : (ydf xs ys k)[k]? = some p := by
  have hk : k < xs.length := (List.getElem?_eq_some_iff.1 h).1
  have hl : ((dfs xs ys).take k).length = k := by simp [dfs_len he]; omega
  unfold ydf
  rw [List.getElem?_append_right (by omega), hl, Nat.sub_self, List.getElem?_drop]
  simpa using h
theorem dfs_take {xs ys : List Int} {k : Nat} {p q : Int} (h1 : xs[k]? = some p) (h2 : ys[k]? = some q) : (dfs xs ys).take (k + 1) = (dfs xs ys).take k ++ [p - q] := by
  rw [List.take_add_one, dfs_get h1 h2]
  rfl
theorem ydf_set {xs ys : List Int} {k : Nat} {p q : Int} (he : xs.length = ys.length) (h1 : xs[k]? = some p) (h2 : ys[k]? = some q) : (ydf xs ys k).set k (p - q) = ydf xs ys (k + 1) := by
  have hk : k < xs.length := (List.getElem?_eq_some_iff.1 h1).1
  have hl : ((dfs xs ys).take k).length = k := by simp [dfs_len he]; omega
  unfold ydf
  rw [List.set_append_right _ _ (by omega), hl, Nat.sub_self, dfs_take h1 h2, List.drop_eq_getElem_cons hk, List.set_cons_zero]
  simp
theorem ydf_all {xs ys : List Int} (he : xs.length = ys.length) : ydf xs ys xs.length = dfs xs ys := by
  unfold ydf
  rw [List.take_of_length_le (by rw [dfs_len he]; exact Nat.le_refl _)]
  simp
theorem sumZ_app : ∀ (xs : List Int) (x : Int), sumZ (xs ++ [x]) = sumZ xs + x
  | [], x => by simp [sumZ]
  | y :: r, x => by
    have ih := sumZ_app r x
    have e : sumZ (y :: r ++ [x]) = y + sumZ (r ++ [x]) := rfl
    have e2 : sumZ (y :: r) = y + sumZ r := rfl
    rw [e, e2, ih]
    omega
theorem RdI.of_intR {w : World} {g : Nat} {T : TypeId} {ys : List Int} {rest : List Value} (h : w.heap[g]? = some (.cells (intR ys rest) T)) : RdI w (some ⟨g, 0, none⟩) ys := fun k p hk =>
  ⟨_, rfl, by rw [add_at]; exact intR_cell h hk⟩

/-! the reference -/
def rdC (xs : List Int) : Int := if rdB xs then 0 else 2
end Go.Proofs.YtpadjkgbeijkpaaDoor
