/- COLLECTED: integers out of any iterator by slices.AppendSeq and slices.Collect; slices.Values. -/
import Derived.Test.YtnbdafecgccojaaRgf
import Derived.Test.YtnbdafecgccojaaIv
import Derived.Test.YtnbdafecgccojaaPq
namespace Go.Proofs.Ytnbdafecgccojaa
open Go.RowKit Go.Sort Go.Shelf
attribute [local go_sem] Oper.semAt_some wide_fn

theorem own_putI {W : World} {v : Value} {k : Nat} {xs : List Value} {e : TypeId} {sz base : Nat} (h : W.ownsRow base e sz v k xs) {r : Nat} {o : Obj} (o' : Obj) (hr : W.heap[r]? = some o) (hc : o.isCells = false) : (W.putObj r o').ownsRow base e sz v k xs := by
  refine ⟨h.1, ?_⟩
  rcases h.2 with h | ⟨g, cap, cur, h1, h2, h3, h4⟩
  · exact .inl h
  · refine .inr ⟨g, cap, cur, h1, h2, (World.putObj_heap_other ?_).trans h3, h4⟩
    rintro rfl
    rw [h3] at hr
    cases hr
    cases hc
theorem heap_putI {W : World} {b r : Nat} {cs : Array Value} {T : TypeId} {o : Obj} (o' : Obj) (h : W.heap[b]? = some (.cells cs T)) (hr : W.heap[r]? = some o) (hc : o.isCells = false) : (W.putObj r o').heap[b]? = some (.cells cs T) := by
  refine (World.putObj_heap_other ?_).trans h
  rintro rfl
  rw [h] at hr
  cases hr
  cases hc
theorem keepSetI {w : World} {g : Nat} {o : Obj} {a : Addr} {v : Value} (h : w.heap[g]? = some o) (hne : g ≠ a.block) : (w.setCell a v).heap[g]? = some o := by
  rw [Below.heap_setCell _ _ _ _ hne, h]
def encI (l : List Int) (k : Nat) : Array Value := #[.int .i64 (l.getD k 0)]
theorem encI_at {xs : List Int} {k : Nat} {p : Int} (h : xs[k]? = some p) : encI xs k = #[.int .i64 p] := by
  unfold encI
  rw [List.getD_eq_getElem?_getD, h]
  rfl
/-- The box of a slice that owns the first k of L. -/
def Boxed1 (w0 : World) (B : Nat) (L : List Int) (k : Nat) (W : World) : Prop :=
  Gr w0 W ∧ ∃ v, W.heap[B]? = some (.cells #[v] 59) ∧ W.ownsRow w0.heap.size 2 1 v k ((L.take k).map (.int .i64 ·))
/-- What is collected of a function that hands over L. -/
def seqPostI (L : List Int) (w : World) (e : Ending) (w' : World) : Prop := ∃ v, e = .returned v ∧ w'.ownsRow w.heap.size 2 1 v L.length (L.map (.int .i64 ·)) ∧ Gr w w'
end Go.Proofs.Ytnbdafecgccojaa
