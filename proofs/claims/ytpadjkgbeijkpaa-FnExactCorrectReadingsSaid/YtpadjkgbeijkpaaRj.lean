/- READINGS: a slice of integers as data, opened. -/
import Derived.Test.YtpadjkgbeijkpaaRd
import Derived.Test.YtpadjkgbeijkpaaIs
import Derived.ChangeSlices
import Derived.Carry
namespace Go.Proofs.Ytpadjkgbeijkpaa
open Go.RowKit Go.Sort Go.ChangeShapes Go.WideShapes Go.ChangeAt Go.Joins Go.Deep

theorem open_rawI {H : Type} {enc : TypeId × Value → H} {W : World} {base : Nat} {spare : Nat → Bool} {held : Bool} {A : Option Addr} {n cap : Nat} {d : DataW H} {p : List MemPlace}
    (h : DataW.Trod enc Try.prog W base spare held 42 (.slice A n cap) d p) :
    n ≤ 9223372036854775807 ∧ ∃ xs : List Int, n = xs.length ∧ RawI W (.slice A n cap) xs := by
  obtain ⟨fuel, hf⟩ := h
  rcases open_ints Try.underlying42 Try.underlying2 cellsInt hf with ⟨hcs, _⟩ | ⟨a, len, cap', zs, hcs, hb, hl, hm, hmm, hx, hall, _⟩
  · simp [Value.cells] at hcs
    obtain ⟨rfl, rfl, rfl⟩ := hcs
    exact ⟨by omega, [], rfl, .inl ⟨rfl, rfl⟩⟩
  · simp [Value.cells] at hcs
    obtain ⟨rfl, rfl, rfl⟩ := hcs
    have hlm : n ≤ zs.length := by rw [hmm]; split <;> omega
    refine ⟨by unfold maxLen at hm; omega, zs.take n, by simp; omega, .inr ⟨a, cap, by simp; omega, fun k p hk => ?_⟩⟩
    have hkn : k < n := by
      have := (List.getElem?_eq_some_iff.1 hk).1
      simp at this; omega
    have := hall k (by omega)
    rw [List.getElem?_take, if_pos hkn] at hk
    rw [this, List.getD_eq_getElem?_getD, hk]
    rfl
end Go.Proofs.Ytpadjkgbeijkpaa
