/- READINGS: guesses of the laws as data, opened. -/
import Derived.Test.YtmjcnagniphkeaaRd2
import Derived.Test.YtmjcnagniphkeaaPh
import Derived.Deep.Strs
namespace Go.Proofs.Ytmjcnagniphkeaa
open Go.RowKit Go.Sort Go.ChangeShapes Go.WideShapes Go.ChangeAt Go.Joins Go.Deep

section
variable {H : Type} {enc : TypeId × Value → H} {W : World} {base : Nat} {spare : Nat → Bool} {held : Bool}
theorem cellsI16 : Try.prog.cellsOf 68 = 1 := by kernel_rfl
theorem cellsGuess : Try.prog.cellsOf 92 = 3 := by kernel_rfl
theorem wf16 {c : Int} (h : (Lit.int .i16 c).wf = true) : W16 c := by
  unfold W16
  simp [Lit.wf] at h
  have e1 : IntKind.i16.min = -32768 := rfl
  have e2 : IntKind.i16.max = 32767 := rfl
  omega
set_option maxRecDepth 100000 in
theorem open_guess {r : Reach} {b0 : Nat} {v : Value} {d : DataW H} {ps : List MemPlace} (hv : Value.okWide Try.prog W r b0 92 v) (h : DataW.Trod enc Try.prog W base spare held 92 v d ps) :
    ∃ (b u : Int) (o : Bool), v = gs b u o ∧ d = .agg [.lit (.int .i16 b), .lit (.int .i16 u), .lit (.bool o)] ∧ ps = [] ∧ (Lit.int .i16 b).wf = true ∧ (Lit.int .i16 u).wf = true := by
  obtain ⟨cs, rfl, hsz⟩ := okWide_struct Try.underlying92 hv
  obtain ⟨fuel, hf⟩ := h
  obtain ⟨y0, y1, y2, m, hx, hl, h0, h1, h2⟩ := trod_struct3 Try.underlying92 hf
  rw [cellsGuess] at hl
  obtain ⟨c0, c1, c2, hc⟩ := list3 hl
  rw [hc] at h0 h1 h2
  simp only [List.drop, List.take, cellsI16, cellsBool] at h0 h1 h2
  obtain ⟨b, e0, rfl, wb⟩ := DataW.trod_int Try.underlying68 h0
  obtain ⟨u, e1, rfl, wu⟩ := DataW.trod_int Try.underlying68 h1
  obtain ⟨o, e2, rfl⟩ := DataW.trod_bool Try.underlying4 h2
  simp at e0 e1 e2
  subst e0 e1 e2
  simp only [Prod.mk.injEq] at hx
  have : cs = #[.int .i16 b, .int .i16 u, .bool o] := by
    cases cs; simpa [Value.cells] using hc
  subst this
  exact ⟨b, u, o, rfl, hx.1, by simpa using hx.2, wb, wu⟩
theorem shut_guess {b u : Int} {o : Bool} (wb : (Lit.int .i16 b).wf = true) (wu : (Lit.int .i16 u).wf = true) :
    DataW.Trod enc Try.prog W base spare held 92 (gs b u o) (.agg [.lit (.int .i16 b), .lit (.int .i16 u), .lit (.bool o)]) [] :=
  ⟨2, trod_struct3_mk (y0 := (.lit (.int .i16 b), [])) (y1 := (.lit (.int .i16 u), [])) (y2 := (.lit (.bool o), [])) Try.underlying92 (by rw [cellsGuess]; rfl)
    (by simpa [List.drop, List.take, cellsI16, Value.cells] using trod_int_mk 0 Try.underlying68 wb) (by simpa [List.drop, List.take, cellsI16, Value.cells] using trod_int_mk 0 Try.underlying68 wu) (by simpa [List.drop, List.take, cellsBool, Value.cells] using trod_bool_mk' 0)⟩
end
end Go.Proofs.Ytmjcnagniphkeaa
