/- Marks of a scale of the call's own: what else stays. -/
import Derived.Test.YtkeflpcokcfcjaaDoorFm
import Derived.Test.YtkeflpcokcfcjaaDoorRegL
namespace Go.Proofs.YtkeflpcokcfcjaaDoor
open Go.RowKit Go.Sort

/-- All blocks of other types stay. -/
def Others (E : TypeId) (w w' : World) : Prop := ∀ (b : Nat) (cs : Array Value) (T : TypeId), T ≠ E → w.heap[b]? = some (.cells cs T) → w'.heap[b]? = some (.cells cs T)
/-- What a row of the call's own, and a block that holds a row, keep when a block of another type is stored to. -/
theorem own_other {w w' : World} {base b n : Nat} {E T : TypeId} {v : Value} {xs : List Value} {cs : Array Value} (h : w.ownsRow base E 2 v n xs) (hb : w.heap[b]? = some (.cells cs T)) (hT : T ≠ E) (hs : ∀ j, j ≠ b → w'.heap[j]? = w.heap[j]?) : w'.ownsRow base E 2 v n xs := by
  refine ⟨h.1, ?_⟩
  rcases h.2 with h0 | ⟨g, cap, cur, h1, h2, h3, h4⟩
  · exact .inl h0
  · refine .inr ⟨g, cap, cur, h1, h2, ?_, h4⟩
    rw [hs g (fun he => ?_)]
    · exact h3
    · subst he
      rw [h3] at hb
      injection hb with e1
      injection e1 with _ e2
      exact hT e2.symm
theorem row_other {w w' : World} {g b : Nat} {E T : TypeId} {cs cs' : Array Value} (h : w.heap[g]? = some (.cells cs' E)) (hb : w.heap[b]? = some (.cells cs T)) (hT : T ≠ E) (hs : ∀ j, j ≠ b → w'.heap[j]? = w.heap[j]?) : w'.heap[g]? = some (.cells cs' E) := by
  rw [hs g (fun he => ?_)]
  · exact h
  · subst he
    rw [h] at hb
    injection hb with e1
    injection e1 with _ e2
    exact hT e2.symm
end Go.Proofs.YtkeflpcokcfcjaaDoor
namespace Go.Proofs.YtkeflpcokcfcjaaDoor
open Go.RowKit Go.Sort

/-- The first t cells are marked. -/
def mkG (f : Nat → Value) (t : Nat) (cs : Array Value) : Array Value := Array.ofFn (n := cs.size) fun i => if i.1 < t then f i.1 else cs[i.1]
theorem mkG_size (f : Nat → Value) (t : Nat) (cs : Array Value) : (mkG f t cs).size = cs.size := by simp [mkG]
theorem mkG_zero (f : Nat → Value) (cs : Array Value) : mkG f 0 cs = cs := by
  apply Array.ext
  · simp [mkG]
  · intro i h1 h2
    simp [mkG]
theorem mkG_succ (f : Nat → Value) (k : Nat) (cs : Array Value) : (mkG f k cs).setIfInBounds k (f k) = mkG f (k + 1) cs := by
  apply Array.ext
  · simp [mkG]
  · intro i h1 h2
    simp only [mkG, Array.size_setIfInBounds, Array.size_ofFn] at h1
    by_cases h : k = i
    · subst h
      simp [mkG]
    · by_cases h3 : i < k
      · have h4 : i < k + 1 := by omega
        simp [mkG, h3, h4, h, Array.getElem_setIfInBounds_ne, h1]
      · have h4 : ¬ i < k + 1 := by omega
        simp [mkG, h3, h4, h, Array.getElem_setIfInBounds_ne, h1]
theorem mkG_get (f : Nat → Value) (n : Nat) (cs : Array Value) {i : Nat} (h : i < n) (hn : n ≤ cs.size) : (mkG f n cs)[i]? = some (f i) := by
  have : i < (mkG f n cs).size := by rw [mkG_size]; omega
  rw [Array.getElem?_eq_getElem this]
  simp [mkG, h]
theorem mkG_any (f : Nat → Value) (t : Nat) (cs : Array Value) {i : Nat} (h : i < cs.size) : ∃ v, (mkG f t cs)[i]? = some v := ⟨_, Array.getElem?_eq_getElem (by rw [mkG_size]; exact h)⟩
theorem mkG_put {w : World} {g t : Nat} {f : Nat → Value} {cs : Array Value} {T : TypeId} (h : w.heap[g]? = some (.cells (mkG f t cs) T)) : (w.setCell ⟨g, t, none⟩ (f t)).heap[g]? = some (.cells (mkG f (t + 1) cs) T) := by
  have e := Joins.block_setCell (i := t) h (f t)
  rw [mkG_succ] at e
  exact e
theorem cell_of {w : World} {g i : Nat} {cs : Array Value} {T : TypeId} {v : Value} (h : w.heap[g]? = some (.cells cs T)) (hi : cs[i]? = some v) : w.cell? ⟨g, i, none⟩ = some v := by simp [World.cell?, h, hi]
/-- A slice of n elements of sz cells each, all of which are marked. -/
def MkG (w : World) (A : Option Addr) (n sz : Nat) (f : Nat → Value) : Prop := n = 0 ∨ ∃ g cs T, A = some ⟨g, 0, none⟩ ∧ w.heap[g]? = some (.cells cs T) ∧ ∀ i, i < n * sz → cs[i]? = some (f i)
theorem MkG.keep {w w' : World} {A : Option Addr} {n sz : Nat} {f : Nat → Value} (h : MkG w A n sz f) (hg : Gr w w') : MkG w' A n sz f := by
  rcases h with h | ⟨g, cs, T, h1, h2, h3⟩
  · exact .inl h
  · exact .inr ⟨g, cs, T, h1, hg.keep h2, h3⟩
theorem MkG.only {w w' : World} {A : Option Addr} {n sz g : Nat} {f : Nat → Value} (h : MkG w A n sz f) (o : Only g w w') (hne : ∀ ad, A = some ad → ad.block ≠ g) : MkG w' A n sz f := by
  rcases h with h | ⟨g', cs, T, h1, h2, h3⟩
  · exact .inl h
  · exact .inr ⟨g', cs, T, h1, o.1 _ _ (hne _ h1) h2, h3⟩
end Go.Proofs.YtkeflpcokcfcjaaDoor
