/- A struct local that has been laid, and is filled by stores of its cells. -/
import Derived.Test.YtfkmlgndggnhaaaB0
import Derived.Lib.SmallJoins
namespace Go.Proofs.Ytfkmlgndggnhaaa
open Go.RowKit Go.Sort Go.Joins
theorem set1_new {w : World} {g : Nat} {x a : Value} {T : TypeId} (h : w.heap[g]? = some (.cells #[x] T)) :
    (w.setCell ⟨g, 0, none⟩ a).heap[g]? = some (.cells #[a] T) := by
  simpa using block_setCell (i := 0) h a
theorem set1_old {w : World} {g j : Nat} {a : Value} {o : Obj} (h : w.heap[j]? = some o) (hn : j ≠ g) :
    (w.setCell ⟨g, 0, none⟩ a).heap[j]? = some o := by
  rw [Below.heap_setCell _ _ _ _ hn, h]
theorem set2_new {w : World} {g : Nat} {x y a b : Value} {T : TypeId} (h : w.heap[g]? = some (.cells #[x, y] T)) :
    ((w.setCell ⟨g, 0, none⟩ a).setCell ⟨g, 1, none⟩ b).heap[g]? = some (.cells #[a, b] T) := by
  have e1 := block_setCell (i := 0) h a
  simpa using block_setCell (i := 1) e1 b
theorem set2_old {w : World} {g j : Nat} {a b : Value} {o : Obj} (h : w.heap[j]? = some o) (hn : j ≠ g) :
    ((w.setCell ⟨g, 0, none⟩ a).setCell ⟨g, 1, none⟩ b).heap[j]? = some o := by
  rw [Below.heap_setCell _ _ _ _ hn, Below.heap_setCell _ _ _ _ hn, h]
theorem set4_new {w : World} {g : Nat} {x y z u a b c d : Value} {T : TypeId} (h : w.heap[g]? = some (.cells #[x, y, z, u] T)) :
    ((((w.setCell ⟨g, 0, none⟩ a).setCell ⟨g, 1, none⟩ b).setCell ⟨g, 2, none⟩ c).setCell ⟨g, 3, none⟩ d).heap[g]? = some (.cells #[a, b, c, d] T) := by
  have e1 := block_setCell (i := 0) h a
  have e2 := block_setCell (i := 1) e1 b
  have e3 := block_setCell (i := 2) e2 c
  simpa using block_setCell (i := 3) e3 d
theorem set4_old {w : World} {g j : Nat} {a b c d : Value} {o : Obj} (h : w.heap[j]? = some o) (hn : j ≠ g) :
    ((((w.setCell ⟨g, 0, none⟩ a).setCell ⟨g, 1, none⟩ b).setCell ⟨g, 2, none⟩ c).setCell ⟨g, 3, none⟩ d).heap[j]? = some o := by
  rw [Below.heap_setCell _ _ _ _ hn, Below.heap_setCell _ _ _ _ hn, Below.heap_setCell _ _ _ _ hn, Below.heap_setCell _ _ _ _ hn, h]
end Go.Proofs.Ytfkmlgndggnhaaa
