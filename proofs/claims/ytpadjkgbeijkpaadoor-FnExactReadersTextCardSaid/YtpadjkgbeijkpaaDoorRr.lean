/- READINGS: readers of the laws as data, opened. -/
import Derived.Test.YtpadjkgbeijkpaaDoorRg
import Derived.Test.YtpadjkgbeijkpaaDoorNm
import Derived.Deep.Strs
import Derived.Lib.SmallJoins
namespace Go.Proofs.YtpadjkgbeijkpaaDoor
open Go.RowKit Go.Sort Go.ChangeShapes Go.WideShapes Go.ChangeAt Go.Joins Go.Deep

section
variable {H : Type} {enc : TypeId × Value → H} {W : World} {base : Nat} {spare : Nat → Bool} {held : Bool}
theorem cellsStr : Tryd.prog.cellsOf 9 = 1 := by kernel_rfl
theorem cellsReader : Tryd.prog.cellsOf 114 = 4 := by kernel_rfl
theorem trod_string_mk' {s : ByteArray} (m : Nat) (hs : s.size ≤ maxLen) : DataW.trod enc Tryd.prog W base spare held (m + 1) 9 [.string s] = some (.lit (.string s.data.toList), []) := by
  unfold DataW.trod
  simp [Tryd.underlying9, hs]
theorem listR4 {α : Type} {cs : List α} (h : cs.length = 4) : ∃ c0 c1 c2 c3, cs = [c0, c1, c2, c3] := by
  match cs, h with
  | [c0, c1, c2, c3], _ => exact ⟨c0, c1, c2, c3, rfl⟩
set_option maxRecDepth 100000 in
theorem trod_reader {n : Nat} {cs : List Value} {x : DataW H × List MemPlace} (h : DataW.trod enc Tryd.prog W base spare held n 114 cs = some x) :
    ∃ (s : ByteArray) (b u : Int) (o : Bool), cs = [.string s, .int .i16 b, .int .i16 u, .bool o] ∧ x = (.agg [.lit (.string s.data.toList), .lit (.int .i16 b), .lit (.int .i16 u), .lit (.bool o)], []) ∧ s.size ≤ maxLen ∧ (Lit.int .i16 b).wf = true ∧ (Lit.int .i16 u).wf = true := by
  obtain ⟨y0, y1, y2, y3, m, hx, hl, h0, h1, h2, h3⟩ := trod_struct4 Tryd.underlying114 h
  rw [cellsReader] at hl
  obtain ⟨c0, c1, c2, c3, rfl⟩ := listR4 hl
  simp only [List.drop, List.take, cellsStr, cellsI16, cellsBool] at h0 h1 h2 h3
  obtain ⟨s, e0, rfl, ws⟩ := DataW.trod_string Tryd.underlying9 h0
  obtain ⟨b, e1, rfl, wb⟩ := DataW.trod_int Tryd.underlying112 h1
  obtain ⟨u, e2, rfl, wu⟩ := DataW.trod_int Tryd.underlying112 h2
  obtain ⟨o, e3, rfl⟩ := DataW.trod_bool Tryd.underlying4 h3
  simp at e0 e1 e2 e3
  subst e0 e1 e2 e3
  exact ⟨s, b, u, o, rfl, by simpa using hx, ws, wb, wu⟩
set_option maxRecDepth 100000 in
theorem open_reader {r : Reach} {b0 : Nat} {v : Value} {d : DataW H} {ps : List MemPlace} (hv : Value.okWide Tryd.prog W r b0 114 v) (h : DataW.Trod enc Tryd.prog W base spare held 114 v d ps) :
    ∃ (s : ByteArray) (b u : Int) (o : Bool), v = rdr s b u o ∧ d = .agg [.lit (.string s.data.toList), .lit (.int .i16 b), .lit (.int .i16 u), .lit (.bool o)] ∧ ps = [] ∧ s.size ≤ maxLen ∧ (Lit.int .i16 b).wf = true ∧ (Lit.int .i16 u).wf = true := by
  obtain ⟨cs, rfl, hsz⟩ := okWide_struct Tryd.underlying114 hv
  obtain ⟨fuel, hf⟩ := h
  obtain ⟨s, b, u, o, hc, hx, ws, wb, wu⟩ := trod_reader hf
  simp only [Prod.mk.injEq] at hx
  have : cs = #[.string s, .int .i16 b, .int .i16 u, .bool o] := by
    cases cs; simpa [Value.cells] using hc
  subst this
  exact ⟨s, b, u, o, rfl, hx.1, hx.2, ws, wb, wu⟩
theorem shut_reader {s : ByteArray} {b u : Int} {o : Bool} (ws : s.size ≤ maxLen) (wb : (Lit.int .i16 b).wf = true) (wu : (Lit.int .i16 u).wf = true) :
    DataW.Trod enc Tryd.prog W base spare held 114 (rdr s b u o) (.agg [.lit (.string s.data.toList), .lit (.int .i16 b), .lit (.int .i16 u), .lit (.bool o)]) [] :=
  ⟨2, trod_struct4_mk (y0 := (.lit (.string s.data.toList), [])) (y1 := (.lit (.int .i16 b), [])) (y2 := (.lit (.int .i16 u), [])) (y3 := (.lit (.bool o), [])) Tryd.underlying114 (by rw [cellsReader]; rfl)
    (by simpa [List.drop, List.take, cellsStr, Value.cells] using trod_string_mk' 0 ws) (by simpa [List.drop, List.take, cellsI16, Value.cells] using trod_int_mk 0 Tryd.underlying112 wb) (by simpa [List.drop, List.take, cellsI16, Value.cells] using trod_int_mk 0 Tryd.underlying112 wu) (by simpa [List.drop, List.take, cellsBool, Value.cells] using trod_bool_mk' 0)⟩
end
end Go.Proofs.YtpadjkgbeijkpaaDoor
