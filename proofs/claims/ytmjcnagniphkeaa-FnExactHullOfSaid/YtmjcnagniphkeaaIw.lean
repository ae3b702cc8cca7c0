/- Slices of integers of the call's own: marked; what a mark leaves. -/
import Derived.Test.YtmjcnagniphkeaaIv
namespace Go.Proofs.Ytmjcnagniphkeaa
open Go.RowKit Go.Sort

theorem own_lt {w : World} {base : Nat} {e : TypeId} {size n c : Nat} {A : Option Addr} {xs : List Value} (h : w.ownsRow base e size (.slice A n c) n xs) : ∀ ad, A = some ad → base ≤ ad.block ∧ ad.block < w.heap.size := by
  rintro ad rfl
  exact h.lt ad.block rfl
theorem Only.keepI {w w' : World} {g : Nat} (o : Only g w w') {a : Addr} {v : Value} (hc : w.cell? a = some v) (hne : a.block ≠ g) : w'.cell? a = some v := by
  have hb := World.block_lt_of_cell? _ _ hc
  have h := o.1 a.block w.heap[a.block] hne (Array.getElem?_eq_getElem hb)
  rw [← hc]
  exact World.cell?_of_block (h.trans (Array.getElem?_eq_getElem hb).symm)
theorem RdI.only {w w' : World} {g : Nat} {A : Option Addr} {xs : List Int} (h : RdI w A xs) (o : Only g w w') (hne : ∀ ad, A = some ad → ad.block ≠ g) : RdI w' A xs := fun k p hk => by
  obtain ⟨ad, e, c⟩ := h k p hk
  exact ⟨ad, e, o.keepI c (by rw [addI_block]; exact hne ad e)⟩
theorem own_only {w w' : World} {g : Nat} {base : Nat} {e : TypeId} {size n c : Nat} {A : Option Addr} {xs : List Value} (h : w.ownsRow base e size (.slice A n c) n xs) (o : Only g w w') (hne : ∀ ad, A = some ad → ad.block ≠ g) :
    w'.ownsRow base e size (.slice A n c) n xs := by
  refine ⟨h.1, ?_⟩
  rcases h.2 with h0 | ⟨g', cap, cur, h1, h2, h3, h4⟩
  · exact .inl h0
  · injection h1 with e1 e2 e3
    exact .inr ⟨g', cap, cur, by rw [e1, e3], h2, o.1 g' _ (hne _ e1) h3, h4⟩
end Go.Proofs.Ytmjcnagniphkeaa
