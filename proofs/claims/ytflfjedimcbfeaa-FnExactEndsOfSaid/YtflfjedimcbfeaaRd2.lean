/- READINGS: verniers, screws and spindles among the laws' arguments, opened and shut. -/
import Derived.Test.YtflfjedimcbfeaaRd
import Derived.Test.YtflfjedimcbfeaaB1
import Derived.Deep.Strs
namespace Go.Proofs.Ytflfjedimcbfeaa
open Go.RowKit Go.Sort Go.ChangeShapes Go.WideShapes Go.ChangeAt Go.Joins Go.Deep

section
variable {H : Type} {enc : TypeId × Value → H} {W : World} {base : Nat} {spare : Nat → Bool} {held : Bool}
theorem list3 {α : Type} {cs : List α} (h : cs.length = 3) : ∃ c0 c1 c2, cs = [c0, c1, c2] := by
  match cs, h with
  | [c0, c1, c2], _ => exact ⟨c0, c1, c2, rfl⟩
theorem list5 {α : Type} {cs : List α} (h : cs.length = 5) : ∃ c0 c1 c2 c3 c4, cs = [c0, c1, c2, c3, c4] := by
  match cs, h with
  | [c0, c1, c2, c3, c4], _ => exact ⟨c0, c1, c2, c3, c4, rfl⟩
/-! a vernier -/
theorem cellsVernier : Try.prog.cellsOf 28 = 2 := by kernel_rfl
theorem cellsBool : Try.prog.cellsOf 4 = 1 := by kernel_rfl
theorem trod_bool_mk' {b : Bool} (m : Nat) : DataW.trod enc Try.prog W base spare held (m + 1) 4 [.bool b] = some (.lit (.bool b), []) := by
  obtain ⟨k, hk⟩ := shut_bool (enc := enc) (w := W) (base := base) (spare := spare) (held := held) Try.underlying4 b
  simp [DataW.trod, Try.underlying4]
set_option maxRecDepth 100000 in
theorem open_vernier {r : Reach} {b0 : Nat} {v : Value} {d : DataW H} {p : List MemPlace} (hv : Value.okWide Try.prog W r b0 28 v) (h : DataW.Trod enc Try.prog W base spare held 28 v d p) :
    ∃ (n : Int) (b : Bool), v = vn n b ∧ d = .agg [.lit (.int .i64 n), .lit (.bool b)] ∧ p = [] ∧ (Lit.int .i64 n).wf = true := by
  obtain ⟨cs, rfl, hsz⟩ := okWide_struct Try.underlying28 hv
  obtain ⟨fuel, hf⟩ := h
  obtain ⟨y0, y1, m, hx, hl, h0, h1⟩ := trod_struct2 Try.underlying28 hf
  rw [cellsVernier] at hl
  obtain ⟨c0, c1, hc⟩ := list2 hl
  rw [hc] at h0 h1
  simp only [List.drop, List.take, cellsInt, cellsBool] at h0 h1
  obtain ⟨n, e0, rfl, wn⟩ := DataW.trod_int Try.underlying2 h0
  obtain ⟨b, e1, rfl⟩ := DataW.trod_bool Try.underlying4 h1
  simp at e0 e1
  subst e0 e1
  simp only [Prod.mk.injEq] at hx
  have : cs = #[.int .i64 n, .bool b] := by
    cases cs; simpa [Value.cells] using hc
  subst this
  exact ⟨n, b, rfl, hx.1, by simpa using hx.2, wn⟩
theorem shut_vernier {n : Int} {b : Bool} (wn : (Lit.int .i64 n).wf = true) : DataW.Trod enc Try.prog W base spare held 28 (vn n b) (.agg [.lit (.int .i64 n), .lit (.bool b)]) [] :=
  ⟨2, trod_struct2_mk (y0 := (.lit (.int .i64 n), [])) (y1 := (.lit (.bool b), [])) Try.underlying28 (by rw [cellsVernier]; rfl)
    (by simpa [List.drop, List.take, cellsInt, Value.cells] using trod_int_mk 0 Try.underlying2 wn) (by simpa [List.drop, List.take, cellsBool, Value.cells] using trod_bool_mk' 0)⟩
/-! a spindle -/
/-! a screw -/
end
end Go.Proofs.Ytflfjedimcbfeaa
