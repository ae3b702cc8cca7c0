/- READINGS: tables of the laws as data, opened. -/
import Derived.Test.YtkeflpcokcfcjaaDoorRd
import Derived.Test.YtkeflpcokcfcjaaDoorOg
import Derived.OpenShut
import Derived.Carry
namespace Go.Proofs.YtkeflpcokcfcjaaDoor
open Go.RowKit Go.Sort Go.ChangeShapes Go.WideShapes Go.ChangeAt Go.Joins Go.Deep

theorem cellsObs : Tryd.prog.cellsOf 100 = 9 := by kernel_rfl
theorem cellsA6 : Tryd.prog.cellsOf 65 = 6 := by kernel_rfl
theorem cellsI8 : Tryd.prog.cellsOf 64 = 1 := by kernel_rfl
theorem cellsSlO : Tryd.prog.cellsOf 22 = 1 := by kernel_rfl
theorem cellsTable : Tryd.prog.cellsOf 26 = 5 := by kernel_rfl
theorem list9 {α : Type} {cs : List α} (h : cs.length = 9) : ∃ c0 c1 c2 c3 c4 c5 c6 c7 c8, cs = [c0, c1, c2, c3, c4, c5, c6, c7, c8] := by
  match cs, h with
  | [c0, c1, c2, c3, c4, c5, c6, c7, c8], _ => exact ⟨c0, c1, c2, c3, c4, c5, c6, c7, c8, rfl⟩
theorem add_zero' (a : Addr) : a.add 0 = a := by unfold Addr.add; simp
theorem add_pos' (a : Addr) (j : Nat) (h : 0 < j) : a.add j = ⟨a.block, a.off + j, none⟩ := by
  unfold Addr.add
  rw [if_neg (by omega)]
theorem wf8 {c : Int} (h : (Lit.int .i8 c).wf = true) : okE c = true := by
  unfold okE
  simp [Lit.wf] at h ⊢
  have e1 : IntKind.i8.min = -128 := rfl
  have e2 : IntKind.i8.max = 127 := rfl
  omega
section
variable {H : Type} {enc : TypeId × Value → H} {W : World} {base : Nat} {spare : Nat → Bool} {held : Bool}
set_option maxRecDepth 100000 in
theorem trod_obs {n : Nat} {cs : List Value} {x : DataW H × List MemPlace} (h : DataW.trod enc Tryd.prog W base spare held n 100 cs = some x) : ∃ o : Obv, cs = cO o ∧ wfE o = true := by
  obtain ⟨y0, y1, y2, m, hx, hl, h0, h1, h2⟩ := trod_struct3 Tryd.underlying100 h
  rw [cellsObs] at hl
  obtain ⟨c0, c1, c2, c3, c4, c5, c6, c7, c8, rfl⟩ := list9 hl
  simp only [List.drop, List.take, cellsA6, cellsFrac, cellsInt] at h0 h1 h2
  obtain ⟨xs, m', _, _, hlen, hxl, hi⟩ := DataW.trod_array Tryd.underlying65 h0
  have key : ∀ i v, i < 6 → [c0, c1, c2, c3, c4, c5][i]? = some v → ∃ c, v = .int .i8 c ∧ okE c = true := fun i v hi6 hv => by
    have h := hi i hi6
    rw [cellsI8] at h
    have hs : xs[i]? = some (xs[i]'(by omega)) := List.getElem?_eq_getElem _
    rw [hs] at h
    obtain ⟨c, e, _, wc⟩ := DataW.trod_int Tryd.underlying64 h
    have : List.take 1 (List.drop (i * 1) [c0, c1, c2, c3, c4, c5]) = [v] := by
      have hil : i < [c0, c1, c2, c3, c4, c5].length := hi6
      rw [Nat.mul_one, List.drop_eq_getElem_cons hil]
      rw [List.getElem?_eq_getElem hil] at hv
      injection hv with hv
      rw [hv]
      rfl
    rw [this] at e
    exact ⟨c, by simpa using e, wf8 wc⟩
  obtain ⟨d0, rfl, k0⟩ := key 0 _ (by omega) rfl
  obtain ⟨d1, rfl, k1⟩ := key 1 _ (by omega) rfl
  obtain ⟨d2, rfl, k2⟩ := key 2 _ (by omega) rfl
  obtain ⟨d3, rfl, k3⟩ := key 3 _ (by omega) rfl
  obtain ⟨d4, rfl, k4⟩ := key 4 _ (by omega) rfl
  obtain ⟨d5, rfl, k5⟩ := key 5 _ (by omega) rfl
  obtain ⟨p, q, e1, _, _, _⟩ := trod_frac h1
  obtain ⟨t, e2, _, _⟩ := DataW.trod_int Tryd.underlying2 h2
  simp at e1 e2
  obtain ⟨rfl, rfl⟩ := e1
  subst e2
  exact ⟨⟨d0, d1, d2, d3, d4, d5, p, q, t⟩, rfl, by unfold wfE coL; simp [k0, k1, k2, k3, k4, k5]⟩
theorem open_obsS {fuel : Nat} {c : Value} {x : DataW H × List MemPlace} (hf : DataW.trod enc Tryd.prog W base spare held fuel 22 [c] = some x) :
    ∃ (A : Option Addr) (n cap : Nat), c = .slice A n cap ∧ n ≤ 9223372036854775807 ∧ ∃ xs : List Obv, n = xs.length ∧ RawO W (.slice A n cap) xs ∧ xs.all wfE = true := by
  rcases open_slice Tryd.underlying22 hf with ⟨hcs, _⟩ | ⟨a, len, cap, m, n', D, Pl, hcs, hb, hl, hm, hmm, hx, hall⟩
  · simp at hcs
    subst hcs
    exact ⟨none, 0, 0, rfl, by omega, [], rfl, .inl ⟨rfl, rfl⟩, rfl⟩
  · simp at hcs
    subst hcs
    have hlm : len ≤ m := by rw [hmm]; split <;> omega
    have each : ∀ i, i < len → ∃ o : Obv, CelO W (a.add (i * 9)) o ∧ wfE o = true := fun i hi => by
      obtain ⟨cs', hc, ht⟩ := hall i (by omega)
      rw [cellsObs] at hc
      obtain ⟨o, rfl, hw⟩ := trod_obs ht
      obtain ⟨_, hcl, hat⟩ := World.cells?_some hc
      refine ⟨o, ⟨?_, ?_, ?_, ?_, ?_, ?_, ?_, ?_, ?_⟩, hw⟩
      · have := hat (i := 0) (by omega); rwa [add_zero'] at this
      · have := hat (i := 1) (by omega); rwa [add_pos' _ _ (by omega)] at this
      · have := hat (i := 2) (by omega); rwa [add_pos' _ _ (by omega)] at this
      · have := hat (i := 3) (by omega); rwa [add_pos' _ _ (by omega)] at this
      · have := hat (i := 4) (by omega); rwa [add_pos' _ _ (by omega)] at this
      · have := hat (i := 5) (by omega); rwa [add_pos' _ _ (by omega)] at this
      · have := hat (i := 6) (by omega); rwa [add_pos' _ _ (by omega)] at this
      · have := hat (i := 7) (by omega); rwa [add_pos' _ _ (by omega)] at this
      · have := hat (i := 8) (by omega); rwa [add_pos' _ _ (by omega)] at this
    obtain ⟨f, hf'⟩ := choose_lt each
    have hlen : ((List.range len).map f).length = len := by simp
    refine ⟨some a, len, cap, rfl, by unfold maxLen at hm; omega, (List.range len).map f, hlen.symm, .inr ⟨a, cap, by rw [hlen], fun k o hk => ?_⟩, ?_⟩
    · have hkn : k < len := by
        have := (List.getElem?_eq_some_iff.1 hk).1
        simpa using this
      have hfk : f k = o := by simpa [hkn] using hk
      rw [← hfk]
      exact (hf' k hkn).1
    · rw [List.all_eq_true]
      intro o ho
      simp only [List.mem_map, List.mem_range] at ho
      obtain ⟨i, hi, rfl⟩ := ho
      exact (hf' i hi).2
set_option maxRecDepth 100000 in
theorem open_table {r : Reach} {b0 : Nat} {v : Value} {d : DataW H} {ps : List MemPlace} (hv : Value.okWide Tryd.prog W r b0 26 v) (h : DataW.Trod enc Tryd.prog W base spare held 26 v d ps) :
    ∃ (n : Int) (A : Option Addr) (m cap : Nat) (b : Bool) (p q : Int), v = .agg #[.int .i64 n, .slice A m cap, .bool b, .int .i64 p, .int .i64 q] ∧ m ≤ 9223372036854775807 ∧
      ∃ xs : List Obv, m = xs.length ∧ RawO W (.slice A m cap) xs ∧ xs.all wfE = true := by
  obtain ⟨cs, rfl, hsz⟩ := okWide_struct Tryd.underlying26 hv
  obtain ⟨fuel, hf⟩ := h
  obtain ⟨ys, m', _, hx, hl, hyl, hg⟩ := DataW.trod_struct Tryd.underlying26 hf
  rw [cellsTable] at hl
  obtain ⟨c0, c1, c2, c3, c4, hc⟩ := list5 hl
  match ys, hyl with
  | [y0, y1, y2, y3], _ =>
    have g0 : DataW.trod enc Tryd.prog W base spare held m' 2 (List.take (Tryd.prog.cellsOf 2) (List.drop 0 (Value.agg cs).cells.toList)) = some y0 := hg 0 _ rfl
    have g1 : DataW.trod enc Tryd.prog W base spare held m' 22 (List.take (Tryd.prog.cellsOf 22) (List.drop 1 (Value.agg cs).cells.toList)) = some y1 := hg 1 _ rfl
    have g2 : DataW.trod enc Tryd.prog W base spare held m' 4 (List.take (Tryd.prog.cellsOf 4) (List.drop 2 (Value.agg cs).cells.toList)) = some y2 := hg 2 _ rfl
    have g3 : DataW.trod enc Tryd.prog W base spare held m' 24 (List.take (Tryd.prog.cellsOf 24) (List.drop 3 (Value.agg cs).cells.toList)) = some y3 := hg 3 _ rfl
    rw [hc] at g0 g1 g2 g3
    simp only [List.drop, List.take, cellsInt, cellsSlO, cellsBool, cellsFrac] at g0 g1 g2 g3
    obtain ⟨n, e0, _, _⟩ := DataW.trod_int Tryd.underlying2 g0
    obtain ⟨A, m, cap, rfl, hmax, xs, hm, hr, hw⟩ := open_obsS g1
    obtain ⟨b, e2, _⟩ := DataW.trod_bool Tryd.underlying4 g2
    obtain ⟨p, q, e3, _, _, _⟩ := trod_frac g3
    simp at e0 e2 e3
    subst e0 e2
    obtain ⟨rfl, rfl⟩ := e3
    have hcs : cs = #[.int .i64 n, .slice A m cap, .bool b, .int .i64 p, .int .i64 q] := by
      cases cs; simpa [Value.cells] using hc
    subst hcs
    exact ⟨n, A, m, cap, b, p, q, rfl, hmax, xs, hm, hr, hw⟩
end
end Go.Proofs.YtkeflpcokcfcjaaDoor
