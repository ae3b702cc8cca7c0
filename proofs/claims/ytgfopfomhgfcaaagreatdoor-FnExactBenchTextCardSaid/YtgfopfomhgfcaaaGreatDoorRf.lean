/- READINGS: a slice of the laws' fractions as data, opened. -/
import Derived.Test.YtgfopfomhgfcaaaGreatDoorRd
import Derived.Test.YtgfopfomhgfcaaaGreatDoorFs
import Derived.Deep.SlicePairs
import Derived.Carry
namespace Go.Proofs.YtgfopfomhgfcaaaGreatDoor
open Go.RowKit Go.Sort Go.ChangeShapes Go.WideShapes Go.ChangeAt Go.Joins Go.Deep

theorem add_succ (a : Addr) (n : Nat) : a.add (n + 1) = ⟨(a.add n).block, (a.add n).off + 1, none⟩ := by
  unfold Addr.add
  by_cases h : n = 0 <;> simp [h, Nat.add_assoc]
theorem al_at {w w' : World} {o x : Obj} (h : w'.heap[(w.alloc o).heap.size]? = some x) : w'.heap[w.heap.size + 1]? = some x := by
  rwa [show (w.alloc o).heap.size = w.heap.size + 1 from by simp] at h
theorem open_fracs {H : Type} {enc : TypeId × Value → H} {W : World} {base : Nat} {spare : Nat → Bool} {held : Bool} {A : Option Addr} {n cap : Nat} {d : DataW H} {p : List MemPlace}
    (h : DataW.Trod enc Tryz.prog W base spare held 24 (.slice A n cap) d p) :
    n ≤ 9223372036854775807 ∧ ∃ xs : List (Int × Int), n = xs.length ∧ RawF W (.slice A n cap) xs := by
  obtain ⟨fuel, hf⟩ := h
  rcases open_slice_pairs Tryz.underlying24 Tryz.underlying23 cellsFrac rfl rfl cellsInt cellsInt hf with ⟨hcs, _⟩ | ⟨a, len, cap', m, n', V0, V1, D0, D1, P0, P1, hcs, hb, hl, hm, hmm, hx, hall⟩
  · simp [Value.cells] at hcs
    obtain ⟨rfl, rfl, rfl⟩ := hcs
    exact ⟨by omega, [], rfl, .inl ⟨rfl, rfl⟩⟩
  · simp [Value.cells] at hcs
    obtain ⟨rfl, rfl, rfl⟩ := hcs
    have hlm : n ≤ m := by rw [hmm]; split <;> omega
    have each : ∀ i, i < n → ∃ x : Int × Int, V0 i = .int .i64 x.1 ∧ V1 i = .int .i64 x.2 := fun i hi => by
      obtain ⟨_, _, h0, h1⟩ := hall i (by omega)
      obtain ⟨p, e0, _, _⟩ := DataW.trod_int Tryz.underlying2 h0
      obtain ⟨q, e1, _, _⟩ := DataW.trod_int Tryz.underlying2 h1
      exact ⟨(p, q), by simpa using e0, by simpa using e1⟩
    obtain ⟨f, hf'⟩ := choose_lt each
    have hlen : ((List.range n).map f).length = n := by simp
    refine ⟨by unfold maxLen at hm; omega, (List.range n).map f, hlen.symm, .inr ⟨a, cap, by rw [hlen], fun k p q hk => ?_⟩⟩
    have hkn : k < n := by
      have := (List.getElem?_eq_some_iff.1 hk).1
      simpa using this
    have hfk : f k = (p, q) := by simpa [hkn] using hk
    obtain ⟨c0, c1, _, _⟩ := hall k (by omega)
    obtain ⟨e0, e1⟩ := hf' k hkn
    rw [e0, hfk] at c0
    rw [e1, hfk, add_succ] at c1
    exact ⟨c0, c1⟩
end Go.Proofs.YtgfopfomhgfcaaaGreatDoor
