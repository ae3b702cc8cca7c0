/- READINGS: a disk of the laws as data, opened. -/
import Derived.Test.YteopkbeokiomlaaRd2
import Derived.Test.YteopkbeokiomlaaDk
import Derived.ChangeSlices
import Derived.Carry
namespace Go.Proofs.Yteopkbeokiomlaa
open Go.RowKit Go.Sort Go.ChangeShapes Go.WideShapes Go.ChangeAt Go.Joins Go.Deep

theorem cellsH16 : Try.prog.cellsOf 176 = 1 := by kernel_rfl
theorem cellsSlH : Try.prog.cellsOf 52 = 1 := by kernel_rfl
theorem cellsDisk : Try.prog.cellsOf 54 = 3 := by kernel_rfl
set_option maxRecDepth 100000 in
theorem open_disk {H : Type} {enc : TypeId × Value → H} {W : World} {base : Nat} {spare : Nat → Bool} {held : Bool} {r : Reach} {b0 : Nat} {v : Value} {d : DataW H} {ps : List MemPlace} (hv : Value.okWide Try.prog W r b0 54 v) (h : DataW.Trod enc Try.prog W base spare held 54 v d ps) :
    ∃ (A : Option Addr) (n cap : Nat) (e no : Int), v = dk A n cap e no ∧ n ≤ 9223372036854775807 ∧
      ∃ xs : List Int, n = xs.length ∧ RawH W (.slice A n cap) xs ∧ xs.all okH = true := by
  obtain ⟨cs, rfl, hsz⟩ := okWide_struct Try.underlying54 hv
  obtain ⟨fuel, hf⟩ := h
  obtain ⟨y0, y1, y2, m, hx, hl, h0, h1, h2⟩ := trod_struct3 Try.underlying54 hf
  rw [cellsDisk] at hl
  obtain ⟨c0, c1, c2, hc⟩ := list3 hl
  rw [hc] at h0 h1 h2
  simp only [List.drop, List.take, cellsInt, cellsSlH] at h0 h1 h2
  obtain ⟨e, e1, rfl, we⟩ := DataW.trod_int Try.underlying2 h1
  obtain ⟨no, e2, rfl, wn⟩ := DataW.trod_int Try.underlying2 h2
  simp at e1 e2
  subst e1 e2
  have hcs : cs = #[c0, .int .i64 e, .int .i64 no] := by
    cases cs; simpa [Value.cells] using hc
  subst hcs
  rcases open_ints Try.underlying52 Try.underlying176 cellsH16 h0 with ⟨hcs, _⟩ | ⟨a, len, cap', zs, hcs, hb, hl, hm, hmm, hx, hall, hwf⟩
  · simp at hcs
    subst hcs
    exact ⟨none, 0, 0, e, no, rfl, by omega, [], rfl, .inl ⟨rfl, rfl⟩, rfl⟩
  · simp at hcs
    subst hcs
    have hlm : len ≤ zs.length := by rw [hmm]; split <;> omega
    refine ⟨some a, len, cap', e, no, rfl, by unfold maxLen at hm; omega, zs.take len, by simp; omega, .inr ⟨a, cap', by simp; omega, fun k p hk => ?_⟩, ?_⟩
    · have hkn : k < len := by
        have := (List.getElem?_eq_some_iff.1 hk).1
        simp at this; omega
      have := hall k (by omega)
      rw [List.getElem?_take, if_pos hkn] at hk
      rw [this, List.getD_eq_getElem?_getD, hk]
      rfl
    · rw [List.all_eq_true]
      intro x hx
      have := hwf x (List.mem_of_mem_take hx)
      unfold okH
      simp [Lit.wf] at this ⊢
      have e1 : IntKind.i16.min = -32768 := rfl
      have e2 : IntKind.i16.max = 32767 := rfl
      omega
section
variable {H : Type} {enc : TypeId × Value → H} {P : Program} {w : World} {base : Nat} {spare : Nat → Bool} {held : Bool}
theorem trodAll_five5 {t0 t1 t2 t3 t4 : TypeId} {args : Array Value} {ds : List (DataW H)} {ps : List MemPlace} (h : DataW.TrodAll enc P w base spare held [t0, t1, t2, t3, t4] args.toList ds ps) :
    ∃ v0 v1 v2 v3 v4 d0 d1 d2 d3 d4 p0 p1 p2 p3 p4, args = #[v0, v1, v2, v3, v4] ∧ ds = [d0, d1, d2, d3, d4] ∧ ps = p0 ++ (p1 ++ (p2 ++ (p3 ++ p4))) ∧ DataW.Trod enc P w base spare held t0 v0 d0 p0 ∧ DataW.Trod enc P w base spare held t1 v1 d1 p1 ∧ DataW.Trod enc P w base spare held t2 v2 d2 p2 ∧ DataW.Trod enc P w base spare held t3 v3 d3 p3 ∧ DataW.Trod enc P w base spare held t4 v4 d4 p4 := by
  obtain ⟨v0, r0, d0, e0, p0, q0, ha, rfl, rfl, h0, g0⟩ := trodAll_cons h
  obtain ⟨v1, r1, d1, e1, p1, q1, rfl, rfl, rfl, h1, g1⟩ := trodAll_cons g0
  obtain ⟨v2, r2, d2, e2, p2, q2, rfl, rfl, rfl, h2, g2⟩ := trodAll_cons g1
  obtain ⟨v3, r3, d3, e3, p3, q3, rfl, rfl, rfl, h3, g3⟩ := trodAll_cons g2
  obtain ⟨v4, r4, d4, e4, p4, q4, rfl, rfl, rfl, h4, g4⟩ := trodAll_cons g3
  obtain ⟨rfl, rfl, rfl⟩ := trodAll_nil g4
  exact ⟨v0, v1, v2, v3, v4, d0, d1, d2, d3, d4, p0, p1, p2, p3, p4, by cases args; simp_all, rfl, by simp, h0, h1, h2, h3, h4⟩
theorem trodAll_mk5' {t0 t1 t2 t3 t4 : TypeId} {v0 v1 v2 v3 v4 : Value} {d0 d1 d2 d3 d4 : DataW H} {p0 p1 p2 p3 p4 : List MemPlace} (h0 : DataW.Trod enc P w base spare held t0 v0 d0 p0) (h1 : DataW.Trod enc P w base spare held t1 v1 d1 p1)
    (h2 : DataW.Trod enc P w base spare held t2 v2 d2 p2) (h3 : DataW.Trod enc P w base spare held t3 v3 d3 p3) (h4 : DataW.Trod enc P w base spare held t4 v4 d4 p4) :
    DataW.TrodAll enc P w base spare held [t0, t1, t2, t3, t4] [v0, v1, v2, v3, v4] [d0, d1, d2, d3, d4] (p0 ++ (p1 ++ (p2 ++ (p3 ++ p4)))) := ⟨p0, p1 ++ (p2 ++ (p3 ++ p4)), h0, trodAll_mk4 h1 h2 h3 h4, rfl⟩
end
end Go.Proofs.Yteopkbeokiomlaa
