/- READINGS: a disk of the laws as data, opened. -/
import Derived.Test.YtlekfoboolemgaaRd2
import Derived.Test.YtlekfoboolemgaaDk
import Derived.ChangeSlices
import Derived.Carry
namespace Go.Proofs.Ytlekfoboolemgaa
open Go.RowKit Go.Sort Go.ChangeShapes Go.WideShapes Go.ChangeAt Go.Joins Go.Deep

theorem cellsH16 : Try.prog.cellsOf 67 = 1 := by kernel_rfl
theorem cellsSlH : Try.prog.cellsOf 27 = 1 := by kernel_rfl
theorem cellsDisk : Try.prog.cellsOf 29 = 3 := by kernel_rfl
set_option maxRecDepth 100000 in
theorem open_disk {H : Type} {enc : TypeId × Value → H} {W : World} {base : Nat} {spare : Nat → Bool} {held : Bool} {r : Reach} {b0 : Nat} {v : Value} {d : DataW H} {ps : List MemPlace} (hv : Value.okWide Try.prog W r b0 29 v) (h : DataW.Trod enc Try.prog W base spare held 29 v d ps) :
    ∃ (A : Option Addr) (n cap : Nat) (e no : Int), v = dk A n cap e no ∧ n ≤ 9223372036854775807 ∧
      ∃ xs : List Int, n = xs.length ∧ RawH W (.slice A n cap) xs ∧ xs.all okH = true := by
  obtain ⟨cs, rfl, hsz⟩ := okWide_struct Try.underlying29 hv
  obtain ⟨fuel, hf⟩ := h
  obtain ⟨y0, y1, y2, m, hx, hl, h0, h1, h2⟩ := trod_struct3 Try.underlying29 hf
  rw [cellsDisk] at hl
  obtain ⟨c0, c1, c2, hc⟩ := list3 hl
  rw [hc] at h0 h1 h2
  simp only [List.drop, List.take, cellsInt, cellsSlH] at h0 h1 h2
  obtain ⟨e, e1, rfl, we⟩ := DataW.trod_int Try.underlying2 h1
  obtain ⟨no, e2, rfl, wn⟩ := DataW.trod_int Try.underlying2 h2
  simp at e1 e2
  subst e1 e2
  have hcs : cs = #[c0, .int .i64 e, .int .i64 no] := by
    cases cs; simpa [Value.cells] using hc
  subst hcs
  rcases open_ints Try.underlying27 Try.underlying67 cellsH16 h0 with ⟨hcs, _⟩ | ⟨a, len, cap', zs, hcs, hb, hl, hm, hmm, hx, hall, hwf⟩
  · simp at hcs
    subst hcs
    exact ⟨none, 0, 0, e, no, rfl, by omega, [], rfl, .inl ⟨rfl, rfl⟩, rfl⟩
  · simp at hcs
    subst hcs
    have hlm : len ≤ zs.length := by rw [hmm]; split <;> omega
    refine ⟨some a, len, cap', e, no, rfl, by unfold maxLen at hm; omega, zs.take len, by simp; omega, .inr ⟨a, cap', by simp; omega, fun k p hk => ?_⟩, ?_⟩
    · have hkn : k < len := by
        have := (List.getElem?_eq_some_iff.1 hk).1
        simp at this; omega
      have := hall k (by omega)
      rw [List.getElem?_take, if_pos hkn] at hk
      rw [this, List.getD_eq_getElem?_getD, hk]
      rfl
    · rw [List.all_eq_true]
      intro x hx
      have := hwf x (List.mem_of_mem_take hx)
      unfold okH
      simp [Lit.wf] at this ⊢
      have e1 : IntKind.i16.min = -32768 := rfl
      have e2 : IntKind.i16.max = 32767 := rfl
      omega
end Go.Proofs.Ytlekfoboolemgaa
