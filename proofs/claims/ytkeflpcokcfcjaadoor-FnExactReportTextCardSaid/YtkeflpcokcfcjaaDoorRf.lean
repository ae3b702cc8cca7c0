/- READINGS: a slice of the laws' fractions as data, opened. -/
import Derived.Test.YtkeflpcokcfcjaaDoorRd
import Derived.Test.YtkeflpcokcfcjaaDoorFs
import Derived.Deep.SlicePairs
import Derived.Carry
namespace Go.Proofs.YtkeflpcokcfcjaaDoor
open Go.RowKit Go.Sort Go.ChangeShapes Go.WideShapes Go.ChangeAt Go.Joins Go.Deep

theorem add_succ (a : Addr) (n : Nat) : a.add (n + 1) = ⟨(a.add n).block, (a.add n).off + 1, none⟩ := by
  unfold Addr.add
  by_cases h : n = 0 <;> simp [h, Nat.add_assoc]
theorem al_at {w w' : World} {o x : Obj} (h : w'.heap[(w.alloc o).heap.size]? = some x) : w'.heap[w.heap.size + 1]? = some x := by
  rwa [show (w.alloc o).heap.size = w.heap.size + 1 from by simp] at h
end Go.Proofs.YtkeflpcokcfcjaaDoor
