/- READINGS: a bench of the laws as data, opened. -/
import Derived.Test.YtflfjedimcbfeaaRs
import Derived.Test.YtflfjedimcbfeaaBf
import Derived.OpenShut
import Derived.Carry
import Derived.Deep.Strs
import Derived.Lib.SmallJoins
namespace Go.Proofs.Ytflfjedimcbfeaa
open Go.RowKit Go.Sort Go.ChangeShapes Go.WideShapes Go.ChangeAt Go.Joins Go.Deep

theorem cellsTng : Try.prog.cellsOf 108 = 5 := by kernel_rfl
theorem cellsStrTg : Try.prog.cellsOf 9 = 1 := by kernel_rfl
theorem cellsSlT : Try.prog.cellsOf 29 = 1 := by kernel_rfl
theorem cellsBench : Try.prog.cellsOf 31 = 8 := by kernel_rfl
theorem listTg5 {α : Type} {cs : List α} (h : cs.length = 5) : ∃ c0 c1 c2 c3 c4, cs = [c0, c1, c2, c3, c4] := by
  match cs, h with
  | [c0, c1, c2, c3, c4], _ => exact ⟨c0, c1, c2, c3, c4, rfl⟩
theorem listBn8 {α : Type} {cs : List α} (h : cs.length = 8) : ∃ c0 c1 c2 c3 c4 c5 c6 c7, cs = [c0, c1, c2, c3, c4, c5, c6, c7] := by
  match cs, h with
  | [c0, c1, c2, c3, c4, c5, c6, c7], _ => exact ⟨c0, c1, c2, c3, c4, c5, c6, c7, rfl⟩
theorem add_zeroTg (a : Addr) : a.add 0 = a := by unfold Addr.add; simp
theorem add_posTg (a : Addr) (j : Nat) (h : 0 < j) : a.add j = ⟨a.block, a.off + j, none⟩ := by
  unfold Addr.add
  rw [if_neg (by omega)]
section
variable {H : Type} {enc : TypeId × Value → H} {W : World} {base : Nat} {spare : Nat → Bool} {held : Bool}
set_option maxRecDepth 100000 in
theorem trod_tng {n : Nat} {cs : List Value} {x : DataW H × List MemPlace} (h : DataW.trod enc Try.prog W base spare held n 108 cs = some x) : ∃ o : Tgv, cs = cTg o ∧ o.nm.size ≤ maxLen := by
  obtain ⟨ys, m, _, _, hl, hyl, hg⟩ := DataW.trod_struct Try.underlying108 h
  rw [cellsTng] at hl
  obtain ⟨c0, c1, c2, c3, c4, rfl⟩ := listTg5 hl
  match ys, hyl with
  | [y0, y1, y2], _ =>
    have h0 : DataW.trod enc Try.prog W base spare held m 9 (List.take (Try.prog.cellsOf 9) (List.drop 0 [c0, c1, c2, c3, c4])) = some y0 := hg 0 _ rfl
    have h1 : DataW.trod enc Try.prog W base spare held m 23 (List.take (Try.prog.cellsOf 23) (List.drop 1 [c0, c1, c2, c3, c4])) = some y1 := hg 1 _ rfl
    have h2 : DataW.trod enc Try.prog W base spare held m 23 (List.take (Try.prog.cellsOf 23) (List.drop 3 [c0, c1, c2, c3, c4])) = some y2 := hg 2 _ rfl
    simp only [List.drop, List.take, cellsStrTg, cellsFrac] at h0 h1 h2
    obtain ⟨s, e0, _, ws⟩ := DataW.trod_string Try.underlying9 h0
    obtain ⟨p, q, e1, _, _, _⟩ := trod_frac h1
    obtain ⟨a, b, e2, _, _, _⟩ := trod_frac h2
    simp at e0 e1 e2
    obtain ⟨rfl, rfl⟩ := e1
    obtain ⟨rfl, rfl⟩ := e2
    subst e0
    exact ⟨⟨s, p, q, a, b⟩, rfl, ws⟩
set_option maxRecDepth 100000 in
theorem open_tngs {fuel : Nat} {c : Value} {x : DataW H × List MemPlace} (hf : DataW.trod enc Try.prog W base spare held fuel 29 [c] = some x) :
    ∃ (A : Option Addr) (n cap : Nat), c = .slice A n cap ∧ n ≤ 9223372036854775807 ∧ ∃ xs : List Tgv, n = xs.length ∧ RawTg W (.slice A n cap) xs ∧ ∀ x ∈ xs, x.nm.size ≤ 9223372036854775807 := by
  rcases open_slice Try.underlying29 hf with ⟨hcs, _⟩ | ⟨a, len, cap, m, n', D, Pl, hcs, hb, hl, hm, hmm, hx, hall⟩
  · simp at hcs
    subst hcs
    exact ⟨none, 0, 0, rfl, by omega, [], rfl, .inl ⟨rfl, rfl⟩, by simp⟩
  · simp at hcs
    subst hcs
    have hlm : len ≤ m := by rw [hmm]; split <;> omega
    have each : ∀ i, i < len → ∃ o : Tgv, CelTg W (a.add (i * 5)) o ∧ o.nm.size ≤ maxLen := fun i hi => by
      obtain ⟨cs', hc, ht⟩ := hall i (by omega)
      rw [cellsTng] at hc
      obtain ⟨o, rfl, hs⟩ := trod_tng ht
      obtain ⟨_, hcl, hat⟩ := World.cells?_some hc
      refine ⟨o, ⟨?_, ?_, ?_, ?_, ?_⟩, hs⟩
      · have := hat (i := 0) (by omega); rwa [add_zeroTg] at this
      · have := hat (i := 1) (by omega); rwa [add_posTg _ _ (by omega)] at this
      · have := hat (i := 2) (by omega); rwa [add_posTg _ _ (by omega)] at this
      · have := hat (i := 3) (by omega); rwa [add_posTg _ _ (by omega)] at this
      · have := hat (i := 4) (by omega); rwa [add_posTg _ _ (by omega)] at this
    obtain ⟨f, hf'⟩ := choose_lt each
    have hlen : ((List.range len).map f).length = len := by simp
    refine ⟨some a, len, cap, rfl, by unfold maxLen at hm; omega, (List.range len).map f, hlen.symm, .inr ⟨a, cap, by rw [hlen], fun k o hk => ?_⟩, fun x hx => ?_⟩
    · have hkn : k < len := by
        have := (List.getElem?_eq_some_iff.1 hk).1
        simpa using this
      have hfk : f k = o := by simpa [hkn] using hk
      rw [← hfk]
      exact (hf' k hkn).1
    · obtain ⟨i, hi, rfl⟩ := List.mem_map.1 hx
      have := (hf' i (List.mem_range.1 hi)).2
      unfold maxLen at this
      omega
set_option maxRecDepth 100000 in
theorem open_bench {r : Reach} {b0 : Nat} {v : Value} {d : DataW H} {ps : List MemPlace} (hv : Value.okWide Try.prog W r b0 31 v) (h : DataW.Trod enc Try.prog W base spare held 31 v d ps) :
    ∃ (a b : Int) (A : Option Addr) (m c : Nat) (N : Int) (kb : Bool) (u w : Int) (B : Option Addr) (l e : Nat), v = bnc a b A m c N kb u w B l e ∧ m ≤ 9223372036854775807 ∧ l ≤ 9223372036854775807 ∧
      ∃ (xs : List (Int × Int)) (ts : List Tgv), m = xs.length ∧ l = ts.length ∧ RawF W (.slice A m c) xs ∧ RawTg W (.slice B l e) ts ∧ ∀ x ∈ ts, x.nm.size ≤ 9223372036854775807 := by
  obtain ⟨cs, rfl, hsz⟩ := okWide_struct Try.underlying31 hv
  obtain ⟨fuel, hf⟩ := h
  obtain ⟨ys, m', _, hx, hl, hyl, hg⟩ := DataW.trod_struct Try.underlying31 hf
  rw [cellsBench] at hl
  obtain ⟨c0, c1, c2, c3, c4, c5, c6, c7, hc⟩ := listBn8 hl
  match ys, hyl with
  | [y0, y1, y2, y3], _ =>
    have g0 : DataW.trod enc Try.prog W base spare held m' 26 (List.take (Try.prog.cellsOf 26) (List.drop 0 (Value.agg cs).cells.toList)) = some y0 := hg 0 _ rfl
    have g1 : DataW.trod enc Try.prog W base spare held m' 28 (List.take (Try.prog.cellsOf 28) (List.drop 3 (Value.agg cs).cells.toList)) = some y1 := hg 1 _ rfl
    have g2 : DataW.trod enc Try.prog W base spare held m' 23 (List.take (Try.prog.cellsOf 23) (List.drop 5 (Value.agg cs).cells.toList)) = some y2 := hg 2 _ rfl
    have g3 : DataW.trod enc Try.prog W base spare held m' 29 (List.take (Try.prog.cellsOf 29) (List.drop 7 (Value.agg cs).cells.toList)) = some y3 := hg 3 _ rfl
    rw [hc] at g0 g1 g2 g3
    simp only [List.drop, List.take, cellsScale, cellsVernier, cellsFrac, cellsSlT] at g0 g1 g2 g3
    obtain ⟨z0, z1, mm, _, hl0, h0, h1⟩ := trod_struct2 Try.underlying26 g0
    simp only [List.drop, List.take, cellsFrac, cellsSlF] at h0 h1
    obtain ⟨a, b, e0, _, _, _⟩ := trod_frac h0
    obtain ⟨A, m, c, rfl, hmax, xs, hm, hr⟩ := open_fracs' h1
    obtain ⟨k0, k1, mv, _, hl1, v0, v1⟩ := trod_struct2 Try.underlying28 g1
    simp only [List.drop, List.take, cellsInt, cellsBool] at v0 v1
    obtain ⟨N, e1, _, _⟩ := DataW.trod_int Try.underlying2 v0
    obtain ⟨kb, e2, _⟩ := DataW.trod_bool Try.underlying4 v1
    obtain ⟨u, w, e3, _, _, _⟩ := trod_frac g2
    obtain ⟨B, l, e, rfl, hmax2, ts, hl2, ht, hs⟩ := open_tngs g3
    simp at e0 e1 e2 e3
    obtain ⟨rfl, rfl⟩ := e0
    subst e1 e2
    obtain ⟨rfl, rfl⟩ := e3
    have hcs : cs = bncA a b A m c N kb u w B l e := by
      cases cs; simpa [Value.cells] using hc
    subst hcs
    exact ⟨a, b, A, m, c, N, kb, u, w, B, l, e, rfl, hmax, hmax2, xs, ts, hm, hl2, hr, ht, hs⟩
theorem cellsSho : Try.prog.cellsOf 50 = 5 := by kernel_rfl
set_option maxRecDepth 100000 in
theorem open_sho {r : Reach} {b0 : Nat} {v : Value} {d : DataW H} {ps : List MemPlace} (hv : Value.okWide Try.prog W r b0 50 v) (h : DataW.Trod enc Try.prog W base spare held 50 v d ps) :
    ∃ t a b c e : Int, v = .agg #[.int .i64 t, .int .i64 a, .int .i64 b, .int .i64 c, .int .i64 e] := by
  obtain ⟨cs, rfl, hsz⟩ := okWide_struct Try.underlying50 hv
  obtain ⟨fuel, hf⟩ := h
  obtain ⟨ys, m', _, hx, hl, hyl, hg⟩ := DataW.trod_struct Try.underlying50 hf
  rw [cellsSho] at hl
  obtain ⟨c0, c1, c2, c3, c4, hc⟩ := listTg5 hl
  match ys, hyl with
  | [y0, y1, y2], _ =>
    have g0 : DataW.trod enc Try.prog W base spare held m' 2 (List.take (Try.prog.cellsOf 2) (List.drop 0 (Value.agg cs).cells.toList)) = some y0 := hg 0 _ rfl
    have g1 : DataW.trod enc Try.prog W base spare held m' 23 (List.take (Try.prog.cellsOf 23) (List.drop 1 (Value.agg cs).cells.toList)) = some y1 := hg 1 _ rfl
    have g2 : DataW.trod enc Try.prog W base spare held m' 23 (List.take (Try.prog.cellsOf 23) (List.drop 3 (Value.agg cs).cells.toList)) = some y2 := hg 2 _ rfl
    rw [hc] at g0 g1 g2
    simp only [List.drop, List.take, cellsInt, cellsFrac] at g0 g1 g2
    obtain ⟨t, e0, _, _⟩ := DataW.trod_int Try.underlying2 g0
    obtain ⟨a, b, e1, _, _, _⟩ := trod_frac g1
    obtain ⟨c, e, e2, _, _, _⟩ := trod_frac g2
    simp at e0 e1 e2
    subst e0
    obtain ⟨rfl, rfl⟩ := e1
    obtain ⟨rfl, rfl⟩ := e2
    have hcs : cs = #[.int .i64 t, .int .i64 a, .int .i64 b, .int .i64 c, .int .i64 e] := by
      cases cs; simpa [Value.cells] using hc
    subst hcs
    exact ⟨t, a, b, c, e, rfl⟩
end
end Go.Proofs.Ytflfjedimcbfeaa
