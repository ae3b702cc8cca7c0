/- READINGS: a scale of the laws as data, opened. -/
import Derived.Test.YtgfopfomhgfcaaaGreatDoorRd
import Derived.Test.YtgfopfomhgfcaaaGreatDoorRf
import Derived.Test.YtgfopfomhgfcaaaGreatDoorSka
namespace Go.Proofs.YtgfopfomhgfcaaaGreatDoor
open Go.RowKit Go.Sort Go.ChangeShapes Go.WideShapes Go.ChangeAt Go.Joins Go.Deep

theorem cellsSlF : Tryz.prog.cellsOf 24 = 1 := by kernel_rfl
theorem cellsScale : Tryz.prog.cellsOf 26 = 3 := by kernel_rfl
/-- The cells of a slice of the laws' fractions, opened. -/
theorem open_fracs' {H : Type} {enc : TypeId × Value → H} {W : World} {base : Nat} {spare : Nat → Bool} {held : Bool} {fuel : Nat} {c : Value} {x : DataW H × List MemPlace}
    (hf : DataW.trod enc Tryz.prog W base spare held fuel 24 [c] = some x) :
    ∃ (A : Option Addr) (n cap : Nat), c = .slice A n cap ∧ n ≤ 9223372036854775807 ∧ ∃ xs : List (Int × Int), n = xs.length ∧ RawF W (.slice A n cap) xs := by
  rcases open_slice_pairs Tryz.underlying24 Tryz.underlying23 cellsFrac rfl rfl cellsInt cellsInt hf with ⟨hcs, _⟩ | ⟨a, len, cap', m, n', V0, V1, D0, D1, P0, P1, hcs, hb, hl, hm, hmm, hx, hall⟩
  · simp at hcs
    subst hcs
    exact ⟨none, 0, 0, rfl, by omega, [], rfl, .inl ⟨rfl, rfl⟩⟩
  · simp at hcs
    subst hcs
    have hlm : len ≤ m := by rw [hmm]; split <;> omega
    have each : ∀ i, i < len → ∃ x : Int × Int, V0 i = .int .i64 x.1 ∧ V1 i = .int .i64 x.2 := fun i hi => by
      obtain ⟨_, _, h0, h1⟩ := hall i (by omega)
      obtain ⟨p, e0, _, _⟩ := DataW.trod_int Tryz.underlying2 h0
      obtain ⟨q, e1, _, _⟩ := DataW.trod_int Tryz.underlying2 h1
      exact ⟨(p, q), by simpa using e0, by simpa using e1⟩
    obtain ⟨f, hf'⟩ := choose_lt each
    have hlen : ((List.range len).map f).length = len := by simp
    refine ⟨some a, len, cap', rfl, by unfold maxLen at hm; omega, (List.range len).map f, hlen.symm, .inr ⟨a, cap', by rw [hlen], fun k p q hk => ?_⟩⟩
    have hkn : k < len := by
      have := (List.getElem?_eq_some_iff.1 hk).1
      simpa using this
    have hfk : f k = (p, q) := by simpa [hkn] using hk
    obtain ⟨c0, c1, _, _⟩ := hall k (by omega)
    obtain ⟨e0, e1⟩ := hf' k hkn
    rw [e0, hfk] at c0
    rw [e1, hfk, add_succ] at c1
    exact ⟨c0, c1⟩
set_option maxRecDepth 100000 in
theorem open_scale {H : Type} {enc : TypeId × Value → H} {W : World} {base : Nat} {spare : Nat → Bool} {held : Bool} {r : Reach} {b0 : Nat} {v : Value} {d : DataW H} {ps : List MemPlace} (hv : Value.okWide Tryz.prog W r b0 26 v) (h : DataW.Trod enc Tryz.prog W base spare held 26 v d ps) :
    ∃ (a b : Int) (A : Option Addr) (n cap : Nat), v = scl a b A n cap ∧ n ≤ 9223372036854775807 ∧ ∃ xs : List (Int × Int), n = xs.length ∧ RawF W (.slice A n cap) xs := by
  obtain ⟨cs, rfl, hsz⟩ := okWide_struct Tryz.underlying26 hv
  obtain ⟨fuel, hf⟩ := h
  obtain ⟨y0, y1, m, hx, hl, h0, h1⟩ := trod_struct2 Tryz.underlying26 hf
  rw [cellsScale] at hl
  obtain ⟨c0, c1, c2, hc⟩ := list3 hl
  rw [hc] at h0 h1
  simp only [List.drop, List.take, cellsFrac, cellsSlF] at h0 h1
  obtain ⟨a, b, e0, rfl, _, _⟩ := trod_frac h0
  simp at e0
  obtain ⟨rfl, rfl⟩ := e0
  obtain ⟨A, n, cap, rfl, hmax, xs, hn, hr⟩ := open_fracs' h1
  have hcs : cs = #[.int .i64 a, .int .i64 b, .slice A n cap] := by
    cases cs; simpa [Value.cells] using hc
  subst hcs
  exact ⟨a, b, A, n, cap, rfl, hmax, xs, hn, hr⟩
end Go.Proofs.YtgfopfomhgfcaaaGreatDoor
