/- READINGS: slices of readers of the laws as data, opened. -/
import Derived.Test.YtpadjkgbeijkpaaDoorRr
import Derived.Test.YtpadjkgbeijkpaaDoorVr
import Derived.Test.YtpadjkgbeijkpaaDoorRf
import Derived.OpenShut
import Derived.Carry
namespace Go.Proofs.YtpadjkgbeijkpaaDoor
open Go.RowKit Go.Sort Go.ChangeShapes Go.WideShapes Go.ChangeAt Go.Joins Go.Deep

theorem add_zeroRq (a : Addr) : a.add 0 = a := by unfold Addr.add; simp
theorem add_posRq (a : Addr) (j : Nat) (h : 0 < j) : a.add j = ⟨a.block, a.off + j, none⟩ := by
  unfold Addr.add
  rw [if_neg (by omega)]
section
variable {H : Type} {enc : TypeId × Value → H} {W : World} {base : Nat} {spare : Nat → Bool} {held : Bool}
set_option maxRecDepth 100000 in
theorem open_rdrs {A : Option Addr} {n cap : Nat} {d : DataW H} {p : List MemPlace}
    (h : DataW.Trod enc Tryd.prog W base spare held 58 (.slice A n cap) d p) :
    n ≤ 9223372036854775807 ∧ ∃ xs : List Rqv, n = xs.length ∧ RawRq W (.slice A n cap) xs ∧ ∀ x ∈ xs, x.nm.size ≤ maxLen ∧ wfR x = true := by
  obtain ⟨fuel, hf⟩ := h
  rcases open_slice Tryd.underlying58 hf with ⟨hcs, _⟩ | ⟨a, len, cap', m, n', D, Pl, hcs, hb, hl, hm, hmm, hx, hall⟩
  · simp [Value.cells] at hcs
    obtain ⟨rfl, rfl, rfl⟩ := hcs
    exact ⟨by omega, [], rfl, .inl ⟨rfl, rfl⟩, by simp⟩
  · simp [Value.cells] at hcs
    obtain ⟨rfl, rfl, rfl⟩ := hcs
    have hlm : n ≤ m := by rw [hmm]; split <;> omega
    have each : ∀ i, i < n → ∃ o : Rqv, CelRq W (a.add (i * 4)) o ∧ (o.nm.size ≤ maxLen ∧ wfR o = true) := fun i hi => by
      obtain ⟨cs', hc, ht⟩ := hall i (by omega)
      rw [cellsReader] at hc
      obtain ⟨s, b, u, o, rfl, _, ws, wb, wu⟩ := trod_reader ht
      obtain ⟨_, hcl, hat⟩ := World.cells?_some hc
      refine ⟨⟨s, b, u, o⟩, ⟨?_, ?_, ?_, ?_⟩, ws, by have w1 := wf16 wb; have w2 := wf16 wu; unfold W16 at w1 w2; unfold wfR; simp; omega⟩
      · have := hat (i := 0) (by omega); rwa [add_zeroRq] at this
      · have := hat (i := 1) (by omega); rwa [add_posRq _ _ (by omega)] at this
      · have := hat (i := 2) (by omega); rwa [add_posRq _ _ (by omega)] at this
      · have := hat (i := 3) (by omega); rwa [add_posRq _ _ (by omega)] at this
    obtain ⟨f, hf'⟩ := choose_lt each
    have hlen : ((List.range n).map f).length = n := by simp
    refine ⟨by unfold maxLen at hm; omega, (List.range n).map f, hlen.symm, .inr ⟨a, cap, by rw [hlen], fun k o hk => ?_⟩, fun x hx => ?_⟩
    · have hkn : k < n := by
        have := (List.getElem?_eq_some_iff.1 hk).1
        simpa using this
      have hfk : f k = o := by simpa [hkn] using hk
      rw [← hfk]
      exact (hf' k hkn).1
    · obtain ⟨i, hi, rfl⟩ := List.mem_map.1 hx
      exact (hf' i (List.mem_range.1 hi)).2
end
end Go.Proofs.YtpadjkgbeijkpaaDoor
