/- READINGS: verniers, screws and spindles among the laws' arguments, opened and shut. -/
import Derived.Test.YtjcebojmfoppaaaRd
import Derived.Test.YtjcebojmfoppaaaB1
import Derived.Deep.Strs
namespace Go.Proofs.Ytjcebojmfoppaaa
open Go.RowKit Go.Sort Go.ChangeShapes Go.WideShapes Go.ChangeAt Go.Joins Go.Deep

section
variable {H : Type} {enc : TypeId × Value → H} {W : World} {base : Nat} {spare : Nat → Bool} {held : Bool}
theorem list3 {α : Type} {cs : List α} (h : cs.length = 3) : ∃ c0 c1 c2, cs = [c0, c1, c2] := by
  match cs, h with
  | [c0, c1, c2], _ => exact ⟨c0, c1, c2, rfl⟩
theorem list5 {α : Type} {cs : List α} (h : cs.length = 5) : ∃ c0 c1 c2 c3 c4, cs = [c0, c1, c2, c3, c4] := by
  match cs, h with
  | [c0, c1, c2, c3, c4], _ => exact ⟨c0, c1, c2, c3, c4, rfl⟩
/-! a vernier -/
theorem cellsVernier : Try.prog.cellsOf 23 = 2 := by kernel_rfl
theorem cellsBool : Try.prog.cellsOf 4 = 1 := by kernel_rfl
theorem trod_bool_mk' {b : Bool} (m : Nat) : DataW.trod enc Try.prog W base spare held (m + 1) 4 [.bool b] = some (.lit (.bool b), []) := by
  obtain ⟨k, hk⟩ := shut_bool (enc := enc) (w := W) (base := base) (spare := spare) (held := held) Try.underlying4 b
  simp [DataW.trod, Try.underlying4]
set_option maxRecDepth 100000 in
theorem open_vernier {r : Reach} {b0 : Nat} {v : Value} {d : DataW H} {p : List MemPlace} (hv : Value.okWide Try.prog W r b0 23 v) (h : DataW.Trod enc Try.prog W base spare held 23 v d p) :
    ∃ (n : Int) (b : Bool), v = vn n b ∧ d = .agg [.lit (.int .i64 n), .lit (.bool b)] ∧ p = [] ∧ (Lit.int .i64 n).wf = true := by
  obtain ⟨cs, rfl, hsz⟩ := okWide_struct Try.underlying23 hv
  obtain ⟨fuel, hf⟩ := h
  obtain ⟨y0, y1, m, hx, hl, h0, h1⟩ := trod_struct2 Try.underlying23 hf
  rw [cellsVernier] at hl
  obtain ⟨c0, c1, hc⟩ := list2 hl
  rw [hc] at h0 h1
  simp only [List.drop, List.take, cellsInt, cellsBool] at h0 h1
  obtain ⟨n, e0, rfl, wn⟩ := DataW.trod_int Try.underlying2 h0
  obtain ⟨b, e1, rfl⟩ := DataW.trod_bool Try.underlying4 h1
  simp at e0 e1
  subst e0 e1
  simp only [Prod.mk.injEq] at hx
  have : cs = #[.int .i64 n, .bool b] := by
    cases cs; simpa [Value.cells] using hc
  subst this
  exact ⟨n, b, rfl, hx.1, by simpa using hx.2, wn⟩
theorem shut_vernier {n : Int} {b : Bool} (wn : (Lit.int .i64 n).wf = true) : DataW.Trod enc Try.prog W base spare held 23 (vn n b) (.agg [.lit (.int .i64 n), .lit (.bool b)]) [] :=
  ⟨2, trod_struct2_mk (y0 := (.lit (.int .i64 n), [])) (y1 := (.lit (.bool b), [])) Try.underlying23 (by rw [cellsVernier]; rfl)
    (by simpa [List.drop, List.take, cellsInt, Value.cells] using trod_int_mk 0 Try.underlying2 wn) (by simpa [List.drop, List.take, cellsBool, Value.cells] using trod_bool_mk' 0)⟩
/-! a spindle -/
theorem cellsSpindle : Try.prog.cellsOf 39 = 3 := by kernel_rfl
set_option maxRecDepth 100000 in
theorem open_spindle {r : Reach} {b0 : Nat} {v : Value} {d : DataW H} {ps : List MemPlace} (hv : Value.okWide Try.prog W r b0 39 v) (h : DataW.Trod enc Try.prog W base spare held 39 v d ps) :
    ∃ t p q : Int, v = spi t p q ∧ d = .agg [.lit (.int .i64 t), fd p q] ∧ ps = [] ∧ (Lit.int .i64 t).wf = true ∧ (Lit.int .i64 p).wf = true ∧ (Lit.int .i64 q).wf = true := by
  obtain ⟨cs, rfl, hsz⟩ := okWide_struct Try.underlying39 hv
  obtain ⟨fuel, hf⟩ := h
  obtain ⟨y0, y1, m, hx, hl, h0, h1⟩ := trod_struct2 Try.underlying39 hf
  rw [cellsSpindle] at hl
  obtain ⟨c0, c1, c2, hc⟩ := list3 hl
  rw [hc] at h0 h1
  simp only [List.drop, List.take, cellsInt, cellsFrac] at h0 h1
  obtain ⟨t, e0, rfl, wt⟩ := DataW.trod_int Try.underlying2 h0
  obtain ⟨p, q, e1, rfl, wp, wq⟩ := trod_frac h1
  simp at e0 e1
  obtain ⟨rfl, rfl⟩ := e1
  subst e0
  simp only [Prod.mk.injEq] at hx
  have : cs = #[.int .i64 t, .int .i64 p, .int .i64 q] := by
    cases cs; simpa [Value.cells] using hc
  subst this
  exact ⟨t, p, q, rfl, hx.1, by simpa using hx.2, wt, wp, wq⟩
theorem shut_spindle {t p q : Int} (wt : (Lit.int .i64 t).wf = true) (wp : (Lit.int .i64 p).wf = true) (wq : (Lit.int .i64 q).wf = true) : DataW.Trod enc Try.prog W base spare held 39 (spi t p q) (.agg [.lit (.int .i64 t), fd p q]) [] :=
  ⟨3, trod_struct2_mk (y0 := (.lit (.int .i64 t), [])) (y1 := (fd p q, [])) Try.underlying39 (by rw [cellsSpindle]; rfl)
    (by simpa [List.drop, List.take, cellsInt, Value.cells] using trod_int_mk 1 Try.underlying2 wt) (by simpa [List.drop, List.take, cellsFrac, Value.cells] using trod_frac_mk 0 wp wq)⟩
/-! a screw -/
theorem cellsScrew : Try.prog.cellsOf 31 = 5 := by kernel_rfl
set_option maxRecDepth 100000 in
theorem open_screw {r : Reach} {b0 : Nat} {v : Value} {d : DataW H} {ps : List MemPlace} (hv : Value.okWide Try.prog W r b0 31 v) (h : DataW.Trod enc Try.prog W base spare held 31 v d ps) :
    ∃ a b n c e : Int, v = sc a b n c e ∧ d = .agg [fd a b, .lit (.int .i64 n), fd c e] ∧ ps = [] ∧ (Lit.int .i64 a).wf = true ∧ (Lit.int .i64 b).wf = true ∧ (Lit.int .i64 n).wf = true ∧ (Lit.int .i64 c).wf = true ∧ (Lit.int .i64 e).wf = true := by
  obtain ⟨cs, rfl, hsz⟩ := okWide_struct Try.underlying31 hv
  obtain ⟨fuel, hf⟩ := h
  obtain ⟨y0, y1, y2, m, hx, hl, h0, h1, h2⟩ := trod_struct3 Try.underlying31 hf
  rw [cellsScrew] at hl
  obtain ⟨c0, c1, c2, c3, c4, hc⟩ := list5 hl
  rw [hc] at h0 h1 h2
  simp only [List.drop, List.take, cellsInt, cellsFrac] at h0 h1 h2
  obtain ⟨a, b, e0, rfl, wa, wb⟩ := trod_frac h0
  obtain ⟨n, e1, rfl, wn⟩ := DataW.trod_int Try.underlying2 h1
  obtain ⟨c, e, e2, rfl, wc, we⟩ := trod_frac h2
  simp at e0 e1 e2
  obtain ⟨rfl, rfl⟩ := e0
  obtain ⟨rfl, rfl⟩ := e2
  subst e1
  simp only [Prod.mk.injEq] at hx
  have : cs = #[.int .i64 a, .int .i64 b, .int .i64 n, .int .i64 c, .int .i64 e] := by
    cases cs; simpa [Value.cells] using hc
  subst this
  exact ⟨a, b, n, c, e, rfl, hx.1, by simpa using hx.2, wa, wb, wn, wc, we⟩
theorem shut_screw {a b n c e : Int} (wa : (Lit.int .i64 a).wf = true) (wb : (Lit.int .i64 b).wf = true) (wn : (Lit.int .i64 n).wf = true) (wc : (Lit.int .i64 c).wf = true) (we : (Lit.int .i64 e).wf = true) :
    DataW.Trod enc Try.prog W base spare held 31 (sc a b n c e) (.agg [fd a b, .lit (.int .i64 n), fd c e]) [] :=
  ⟨3, trod_struct3_mk (y0 := (fd a b, [])) (y1 := (.lit (.int .i64 n), [])) (y2 := (fd c e, [])) Try.underlying31 (by rw [cellsScrew]; rfl)
    (by simpa [List.drop, List.take, cellsFrac, Value.cells] using trod_frac_mk 0 wa wb) (by simpa [List.drop, List.take, cellsInt, Value.cells] using trod_int_mk 1 Try.underlying2 wn) (by simpa [List.drop, List.take, cellsFrac, Value.cells] using trod_frac_mk 0 wc we)⟩
end
end Go.Proofs.Ytjcebojmfoppaaa
