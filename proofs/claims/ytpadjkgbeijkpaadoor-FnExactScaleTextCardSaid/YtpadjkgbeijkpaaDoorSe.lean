/- WALKS: closing errors that are shared out evenly, of the program. -/
import Derived.Test.YtpadjkgbeijkpaaDoorIe
import Derived.Test.YtpadjkgbeijkpaaDoorEf
import Derived.Test.YtpadjkgbeijkpaaDoorMk
namespace Go.Proofs.YtpadjkgbeijkpaaDoor
open Go.RowKit Go.Sort

def evs (s t : Int) (xs : List (Int × Int)) : List (Int × Int) := xs.map fun x => (sbP x.1 x.2 s t, sbQ x.1 x.2 s t)
def AllE (s t : Int) (xs : List (Int × Int)) : Prop := ∀ (k : Nat) (p q : Int), xs[k]? = some (p, q) → sbB p q s t = true
theorem evs_len (s t : Int) (xs : List (Int × Int)) : (evs s t xs).length = xs.length := by simp [evs]
theorem evs_get {s t : Int} {xs : List (Int × Int)} {k : Nat} {p q : Int} (h : xs[k]? = some (p, q)) : (evs s t xs)[k]? = some (sbP p q s t, sbQ p q s t) := by simp [evs, h]
theorem evs_take {s t : Int} {xs : List (Int × Int)} {k : Nat} {p q : Int} (h : xs[k]? = some (p, q)) : (evs s t xs).take (k + 1) = (evs s t xs).take k ++ [(sbP p q s t, sbQ p q s t)] := by
  rw [List.take_add_one, evs_get h]
  rfl
/-- The numbers, the first k of them with the share taken away. -/
def yse (s t : Int) (xs : List (Int × Int)) (k : Nat) : List (Int × Int) := (evs s t xs).take k ++ xs.drop k
theorem yse_len {s t : Int} {xs : List (Int × Int)} {k : Nat} (h : k ≤ xs.length) : (yse s t xs k).length = xs.length := by simp [yse, evs_len]; omega
theorem yse_get {s t : Int} {xs : List (Int × Int)} {k : Nat} {p q : Int} (h : xs[k]? = some (p, q)) : (yse s t xs k)[k]? = some (p, q) := by
  have hk : k < xs.length := (List.getElem?_eq_some_iff.1 h).1
  have hl : ((evs s t xs).take k).length = k := by simp [evs_len]; omega
  unfold yse
  rw [List.getElem?_append_right (by omega), hl, Nat.sub_self, List.getElem?_drop]
  simpa using h
theorem yse_set {s t : Int} {xs : List (Int × Int)} {k : Nat} {p q : Int} (h : xs[k]? = some (p, q)) : (yse s t xs k).set k (sbP p q s t, sbQ p q s t) = yse s t xs (k + 1) := by
  have hk : k < xs.length := (List.getElem?_eq_some_iff.1 h).1
  have hl : ((evs s t xs).take k).length = k := by simp [evs_len]; omega
  unfold yse
  rw [List.set_append_right _ _ (by omega), hl, Nat.sub_self, evs_take h, List.drop_eq_getElem_cons hk, List.set_cons_zero]
  simp
theorem allF_get2 {xs : List (Int × Int)} {k : Nat} {p q : Int} (h : allF xs = true) (hk : xs[k]? = some (p, q)) : okB p q = true := by
  unfold allF at h
  exact List.all_eq_true.1 h (p, q) (List.mem_of_getElem? hk)
theorem yse_all {s t : Int} {xs : List (Int × Int)} : yse s t xs xs.length = evs s t xs := by
  unfold yse
  rw [List.take_of_length_le (by rw [evs_len]; exact Nat.le_refl _)]
  simp
section
end
end Go.Proofs.YtpadjkgbeijkpaaDoor
