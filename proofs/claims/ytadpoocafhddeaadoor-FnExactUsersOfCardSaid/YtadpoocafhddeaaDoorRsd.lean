/- READINGS: slices of standards of the laws as data, opened. -/
import Derived.Test.YtadpoocafhddeaaDoorRd
import Derived.Test.YtadpoocafhddeaaDoorSd
import Derived.OpenShut
import Derived.Carry
import Derived.Deep.Strs
import Derived.Lib.SmallJoins
namespace Go.Proofs.YtadpoocafhddeaaDoor
open Go.RowKit Go.Sort Go.ChangeShapes Go.WideShapes Go.ChangeAt Go.Joins Go.Deep

theorem cellsStd : Tryd.prog.cellsOf 48 = 10 := by kernel_rfl
theorem cellsStrSd : Tryd.prog.cellsOf 9 = 1 := by kernel_rfl
theorem listSd10 {α : Type} {cs : List α} (h : cs.length = 10) : ∃ c0 c1 c2 c3 c4 c5 c6 c7 c8 c9, cs = [c0, c1, c2, c3, c4, c5, c6, c7, c8, c9] := by
  match cs, h with
  | [c0, c1, c2, c3, c4, c5, c6, c7, c8, c9], _ => exact ⟨c0, c1, c2, c3, c4, c5, c6, c7, c8, c9, rfl⟩
theorem add_zeroSd (a : Addr) : a.add 0 = a := by unfold Addr.add; simp
theorem add_posSd (a : Addr) (j : Nat) (h : 0 < j) : a.add j = ⟨a.block, a.off + j, none⟩ := by
  unfold Addr.add
  rw [if_neg (by omega)]
section
variable {H : Type} {enc : TypeId × Value → H} {W : World} {base : Nat} {spare : Nat → Bool} {held : Bool}
theorem trod_struct6 {P : Program} {t : TypeId} {f0 f1 f2 f3 f4 f5 : Field} {fuel : Nat} {cs : List Value} {x : DataW H × List MemPlace} (ht : P.underlying t = some (.struct #[f0, f1, f2, f3, f4, f5])) (h : DataW.trod enc P W base spare held fuel t cs = some x) :
    ∃ y0 y1 y2 y3 y4 y5 n, cs.length = P.cellsOf t ∧ DataW.trod enc P W base spare held n f0.type ((cs.drop f0.offset).take (P.cellsOf f0.type)) = some y0 ∧
      DataW.trod enc P W base spare held n f1.type ((cs.drop f1.offset).take (P.cellsOf f1.type)) = some y1 ∧ DataW.trod enc P W base spare held n f2.type ((cs.drop f2.offset).take (P.cellsOf f2.type)) = some y2 ∧
      DataW.trod enc P W base spare held n f3.type ((cs.drop f3.offset).take (P.cellsOf f3.type)) = some y3 ∧ DataW.trod enc P W base spare held n f4.type ((cs.drop f4.offset).take (P.cellsOf f4.type)) = some y4 ∧
      DataW.trod enc P W base spare held n f5.type ((cs.drop f5.offset).take (P.cellsOf f5.type)) = some y5 := by
  obtain ⟨xs, n, _, rfl, hl, hlen, hf⟩ := DataW.trod_struct ht h
  match xs, hlen with
  | [y0, y1, y2, y3, y4, y5], _ => exact ⟨y0, y1, y2, y3, y4, y5, n, hl, by simpa using hf 0 f0 rfl, by simpa using hf 1 f1 rfl, by simpa using hf 2 f2 rfl, by simpa using hf 3 f3 rfl, by simpa using hf 4 f4 rfl, by simpa using hf 5 f5 rfl⟩
set_option maxRecDepth 100000 in
theorem trod_std {n : Nat} {cs : List Value} {x : DataW H × List MemPlace} (h : DataW.trod enc Tryd.prog W base spare held n 48 cs = some x) : ∃ o : Sdv, cs = cSd o ∧ o.nm.size ≤ maxLen := by
  obtain ⟨y0, y1, y2, y3, y4, y5, m, hl, h0, h1, h2, h3, h4, h5⟩ := trod_struct6 Tryd.underlying48 h
  rw [cellsStd] at hl
  obtain ⟨c0, c1, c2, c3, c4, c5, c6, c7, c8, c9, rfl⟩ := listSd10 hl
  simp only [List.drop, List.take, cellsStrSd, cellsInt, cellsSpan, cellsFrac] at h0 h1 h2 h3 h4 h5
  obtain ⟨s, e0, _, ws⟩ := DataW.trod_string Tryd.underlying9 h0
  obtain ⟨f, e1, _, _⟩ := DataW.trod_int Tryd.underlying2 h1
  obtain ⟨a, b, c, d, e2, _, _, _, _, _⟩ := trod_span h2
  obtain ⟨p, q, e3, _, _, _⟩ := trod_frac h3
  obtain ⟨i, e4, _, _⟩ := DataW.trod_int Tryd.underlying2 h4
  obtain ⟨g, e5, _, _⟩ := DataW.trod_int Tryd.underlying2 h5
  simp at e0 e1 e2 e3 e4 e5
  obtain ⟨rfl, rfl, rfl, rfl⟩ := e2
  obtain ⟨rfl, rfl⟩ := e3
  subst e0 e1 e4 e5
  exact ⟨⟨s, f, a, b, c, d, p, q, i, g⟩, rfl, ws⟩
set_option maxRecDepth 100000 in
theorem open_stds {A : Option Addr} {n cap : Nat} {d : DataW H} {p : List MemPlace}
    (h : DataW.Trod enc Tryd.prog W base spare held 22 (.slice A n cap) d p) :
    n ≤ 9223372036854775807 ∧ ∃ xs : List Sdv, n = xs.length ∧ RawSd W (.slice A n cap) xs ∧ ∀ x ∈ xs, x.nm.size ≤ maxLen := by
  obtain ⟨fuel, hf⟩ := h
  rcases open_slice Tryd.underlying22 hf with ⟨hcs, _⟩ | ⟨a, len, cap', m, n', D, Pl, hcs, hb, hl, hm, hmm, hx, hall⟩
  · simp [Value.cells] at hcs
    obtain ⟨rfl, rfl, rfl⟩ := hcs
    exact ⟨by omega, [], rfl, .inl ⟨rfl, rfl⟩, by simp⟩
  · simp [Value.cells] at hcs
    obtain ⟨rfl, rfl, rfl⟩ := hcs
    have hlm : n ≤ m := by rw [hmm]; split <;> omega
    have each : ∀ i, i < n → ∃ o : Sdv, CelSd W (a.add (i * 10)) o ∧ o.nm.size ≤ maxLen := fun i hi => by
      obtain ⟨cs', hc, ht⟩ := hall i (by omega)
      rw [cellsStd] at hc
      obtain ⟨o, rfl, hs⟩ := trod_std ht
      obtain ⟨_, hcl, hat⟩ := World.cells?_some hc
      refine ⟨o, ⟨?_, ?_, ?_, ?_, ?_, ?_, ?_, ?_, ?_, ?_⟩, hs⟩
      · have := hat (i := 0) (by omega); rwa [add_zeroSd] at this
      · have := hat (i := 1) (by omega); rwa [add_posSd _ _ (by omega)] at this
      · have := hat (i := 2) (by omega); rwa [add_posSd _ _ (by omega)] at this
      · have := hat (i := 3) (by omega); rwa [add_posSd _ _ (by omega)] at this
      · have := hat (i := 4) (by omega); rwa [add_posSd _ _ (by omega)] at this
      · have := hat (i := 5) (by omega); rwa [add_posSd _ _ (by omega)] at this
      · have := hat (i := 6) (by omega); rwa [add_posSd _ _ (by omega)] at this
      · have := hat (i := 7) (by omega); rwa [add_posSd _ _ (by omega)] at this
      · have := hat (i := 8) (by omega); rwa [add_posSd _ _ (by omega)] at this
      · have := hat (i := 9) (by omega); rwa [add_posSd _ _ (by omega)] at this
    obtain ⟨f, hf'⟩ := choose_lt each
    have hlen : ((List.range n).map f).length = n := by simp
    refine ⟨by unfold maxLen at hm; omega, (List.range n).map f, hlen.symm, .inr ⟨a, cap, by rw [hlen], fun k o hk => ?_⟩, fun x hx => ?_⟩
    · have hkn : k < n := by
        have := (List.getElem?_eq_some_iff.1 hk).1
        simpa using this
      have hfk : f k = o := by simpa [hkn] using hk
      rw [← hfk]
      exact (hf' k hkn).1
    · obtain ⟨i, hi, rfl⟩ := List.mem_map.1 hx
      exact (hf' i (List.mem_range.1 hi)).2
end
end Go.Proofs.YtadpoocafhddeaaDoor
