/- Blocks of three and of five cells in a region in which a store goes to another block. -/
import Derived.Test.YtjcebojmfoppaaaRegO
import Derived.Test.YtjcebojmfoppaaaB1
namespace Go.Proofs.Ytjcebojmfoppaaa
open Go.RowKit Go.Sort
theorem atO3 {w wb : World} {b j : Nat} {cs : Array Value} {x y z : Value} {T : TypeId} (hb : Gr w wb ∨ Gr (w.setRow b cs) wb) (h : w.heap[j]? = some (.cells #[x, y, z] T)) (hn : j ≠ b) :
    (∀ (m : Nat) (os : Array Obj), (grow (wb.drewN m) os).cell? ⟨j, 0, none⟩ = some x) ∧ (∀ (m : Nat) (os : Array Obj), (grow (wb.drewN m) os).cell? ⟨j, 1, none⟩ = some y) ∧ (∀ (m : Nat) (os : Array Obj), (grow (wb.drewN m) os).cell? ⟨j, 2, none⟩ = some z) :=
  hb.elim (fun g => g.at3 h) (fun g => g.at3 (row_old h hn))
theorem atO5 {w wb : World} {b j : Nat} {cs : Array Value} {x y z u v : Value} {T : TypeId} (hb : Gr w wb ∨ Gr (w.setRow b cs) wb) (h : w.heap[j]? = some (.cells #[x, y, z, u, v] T)) (hn : j ≠ b) :
    (∀ (m : Nat) (os : Array Obj), (grow (wb.drewN m) os).cell? ⟨j, 0, none⟩ = some x) ∧ (∀ (m : Nat) (os : Array Obj), (grow (wb.drewN m) os).cell? ⟨j, 1, none⟩ = some y) ∧ (∀ (m : Nat) (os : Array Obj), (grow (wb.drewN m) os).cell? ⟨j, 2, none⟩ = some z) ∧
    (∀ (m : Nat) (os : Array Obj), (grow (wb.drewN m) os).cell? ⟨j, 3, none⟩ = some u) ∧ (∀ (m : Nat) (os : Array Obj), (grow (wb.drewN m) os).cell? ⟨j, 4, none⟩ = some v) :=
  hb.elim (fun g => g.at5 h) (fun g => g.at5 (row_old h hn))
end Go.Proofs.Ytjcebojmfoppaaa
