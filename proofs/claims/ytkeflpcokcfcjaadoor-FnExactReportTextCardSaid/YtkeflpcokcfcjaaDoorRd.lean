/- READINGS: the structs of the laws' arguments as data, opened and shut. -/
import Derived.Test.YtkeflpcokcfcjaaDoorB0
import Derived.Test.YtkeflpcokcfcjaaDoorRows
import Derived.ProofKit
import Derived.Lib.SmallJoins
import Derived.Test.YtkeflpcokcfcjaaDoorB1
import Derived.Deep.Strs
namespace Go.Proofs.YtkeflpcokcfcjaaDoor
open Go.RowKit Go.Sort Go.ChangeShapes Go.WideShapes Go.ChangeAt Go.Joins

section
variable {H : Type} {enc : TypeId × Value → H} {W : World} {base : Nat} {spare : Nat → Bool} {held : Bool}
theorem list2 {α : Type} {cs : List α} (h : cs.length = 2) : ∃ c0 c1, cs = [c0, c1] := by
  match cs, h with
  | [c0, c1], _ => exact ⟨c0, c1, rfl⟩
theorem list4 {α : Type} {cs : List α} (h : cs.length = 4) : ∃ c0 c1 c2 c3, cs = [c0, c1, c2, c3] := by
  match cs, h with
  | [c0, c1, c2, c3], _ => exact ⟨c0, c1, c2, c3, rfl⟩
abbrev fd (p q : Int) : DataW H := .agg [.lit (.int .i64 p), .lit (.int .i64 q)]
theorem cellsFrac : Tryd.prog.cellsOf 24 = 2 := by kernel_rfl
theorem cellsInt : Tryd.prog.cellsOf 2 = 1 := by kernel_rfl
theorem trod_frac {n : Nat} {cs : List Value} {x : DataW H × List MemPlace} (h : DataW.trod enc Tryd.prog W base spare held n 24 cs = some x) :
    ∃ p q : Int, cs = [.int .i64 p, .int .i64 q] ∧ x = (fd p q, []) ∧ (Lit.int .i64 p).wf = true ∧ (Lit.int .i64 q).wf = true := by
  obtain ⟨y0, y1, m, hx, hl, h0, h1⟩ := trod_struct2 Tryd.underlying24 h
  rw [cellsFrac] at hl
  obtain ⟨c0, c1, rfl⟩ := list2 hl
  simp only [List.drop, List.take, cellsInt] at h0 h1
  obtain ⟨p, e0, rfl, wp⟩ := DataW.trod_int Tryd.underlying2 h0
  obtain ⟨q, e1, rfl, wq⟩ := DataW.trod_int Tryd.underlying2 h1
  simp at e0 e1
  subst e0 e1
  exact ⟨p, q, rfl, by simpa using hx, wp, wq⟩
theorem trod_frac_mk {p q : Int} (m : Nat) (wp : (Lit.int .i64 p).wf = true) (wq : (Lit.int .i64 q).wf = true) :
    DataW.trod enc Tryd.prog W base spare held (m + 2) 24 [.int .i64 p, .int .i64 q] = some (fd p q, []) := by
  exact trod_struct2_mk (y0 := (.lit (.int .i64 p), [])) (y1 := (.lit (.int .i64 q), [])) Tryd.underlying24 (by rw [cellsFrac]; rfl)
    (by simpa [List.drop, List.take, cellsInt] using trod_int_mk m Tryd.underlying2 wp) (by simpa [List.drop, List.take, cellsInt] using trod_int_mk m Tryd.underlying2 wq)
set_option maxRecDepth 100000 in
theorem open_frac {r : Reach} {b0 : Nat} {v : Value} {d : DataW H} {p : List MemPlace} (hv : Value.okWide Tryd.prog W r b0 24 v) (h : DataW.Trod enc Tryd.prog W base spare held 24 v d p) :
    ∃ a b : Int, v = fr a b ∧ d = fd a b ∧ p = [] ∧ (Lit.int .i64 a).wf = true ∧ (Lit.int .i64 b).wf = true := by
  obtain ⟨cs, rfl, hsz⟩ := okWide_struct Tryd.underlying24 hv
  obtain ⟨fuel, hf⟩ := h
  obtain ⟨a, b, hc, hx, wa, wb⟩ := trod_frac hf
  simp only [Prod.mk.injEq] at hx
  have : cs = #[.int .i64 a, .int .i64 b] := by
    cases cs; simpa [Value.cells] using hc
  subst this
  exact ⟨a, b, rfl, hx.1, hx.2, wa, wb⟩
theorem shut_frac {a b : Int} (wa : (Lit.int .i64 a).wf = true) (wb : (Lit.int .i64 b).wf = true) : DataW.Trod enc Tryd.prog W base spare held 24 (fr a b) (fd a b) [] :=
  ⟨2, trod_frac_mk 0 wa wb⟩
abbrev sd (a b c d : Int) : DataW H := .agg [fd a b, fd c d]
theorem cellsSpan : Tryd.prog.cellsOf 42 = 4 := by kernel_rfl
theorem trod_span {n : Nat} {cs : List Value} {x : DataW H × List MemPlace} (h : DataW.trod enc Tryd.prog W base spare held n 42 cs = some x) :
    ∃ a b c d : Int, cs = [.int .i64 a, .int .i64 b, .int .i64 c, .int .i64 d] ∧ x = (sd a b c d, []) ∧ (Lit.int .i64 a).wf = true ∧ (Lit.int .i64 b).wf = true ∧ (Lit.int .i64 c).wf = true ∧ (Lit.int .i64 d).wf = true := by
  obtain ⟨y0, y1, m, hx, hl, h0, h1⟩ := trod_struct2 Tryd.underlying42 h
  rw [cellsSpan] at hl
  obtain ⟨c0, c1, c2, c3, rfl⟩ := list4 hl
  simp only [List.drop, List.take, cellsFrac] at h0 h1
  obtain ⟨a, b, e0, rfl, wa, wb⟩ := trod_frac h0
  obtain ⟨c, d, e1, rfl, wc, wd⟩ := trod_frac h1
  simp at e0 e1
  obtain ⟨rfl, rfl⟩ := e0
  obtain ⟨rfl, rfl⟩ := e1
  exact ⟨a, b, c, d, rfl, by simpa using hx, wa, wb, wc, wd⟩
theorem trod_span_mk {a b c d : Int} (m : Nat) (wa : (Lit.int .i64 a).wf = true) (wb : (Lit.int .i64 b).wf = true) (wc : (Lit.int .i64 c).wf = true) (wd : (Lit.int .i64 d).wf = true) :
    DataW.trod enc Tryd.prog W base spare held (m + 3) 42 [.int .i64 a, .int .i64 b, .int .i64 c, .int .i64 d] = some (sd a b c d, []) := by
  exact trod_struct2_mk (y0 := (fd a b, [])) (y1 := (fd c d, [])) Tryd.underlying42 (by rw [cellsSpan]; rfl)
    (by simpa [List.drop, List.take, cellsFrac] using trod_frac_mk m wa wb) (by simpa [List.drop, List.take, cellsFrac] using trod_frac_mk m wc wd)
set_option maxRecDepth 100000 in
theorem open_span {r : Reach} {b0 : Nat} {v : Value} {d : DataW H} {p : List MemPlace} (hv : Value.okWide Tryd.prog W r b0 42 v) (h : DataW.Trod enc Tryd.prog W base spare held 42 v d p) :
    ∃ a b c e : Int, v = sp a b c e ∧ d = sd a b c e ∧ p = [] ∧ (Lit.int .i64 a).wf = true ∧ (Lit.int .i64 b).wf = true ∧ (Lit.int .i64 c).wf = true ∧ (Lit.int .i64 e).wf = true := by
  obtain ⟨cs, rfl, hsz⟩ := okWide_struct Tryd.underlying42 hv
  obtain ⟨fuel, hf⟩ := h
  obtain ⟨a, b, c, e, hc, hx, wa, wb, wc, we⟩ := trod_span hf
  simp only [Prod.mk.injEq] at hx
  have : cs = #[.int .i64 a, .int .i64 b, .int .i64 c, .int .i64 e] := by
    cases cs; simpa [Value.cells] using hc
  subst this
  exact ⟨a, b, c, e, rfl, hx.1, hx.2, wa, wb, wc, we⟩
theorem shut_span {a b c d : Int} (wa : (Lit.int .i64 a).wf = true) (wb : (Lit.int .i64 b).wf = true) (wc : (Lit.int .i64 c).wf = true) (wd : (Lit.int .i64 d).wf = true) : DataW.Trod enc Tryd.prog W base spare held 42 (sp a b c d) (sd a b c d) [] :=
  ⟨3, trod_span_mk 0 wa wb wc wd⟩
set_option maxRecDepth 100000 in
theorem open_i64 {v : Value} {d : DataW H} {p : List MemPlace} {r : Reach} {b0 : Nat} (hv : Value.okWide Tryd.prog W r b0 2 v) (h : DataW.Trod enc Tryd.prog W base spare held 2 v d p) :
    ∃ n : Int, v = .int .i64 n ∧ d = .lit (.int .i64 n) ∧ p = [] ∧ (Lit.int .i64 n).wf = true := by
  obtain ⟨n, rfl, rfl, rfl, wn⟩ := open_int Tryd.underlying2 hv h
  exact ⟨n, rfl, rfl, rfl, wn⟩
theorem shut_i64 {n : Int} (wn : (Lit.int .i64 n).wf = true) : DataW.Trod enc Tryd.prog W base spare held 2 (.int .i64 n) (.lit (.int .i64 n)) [] :=
  ⟨1, by simpa [Value.cells] using trod_int_mk 0 Tryd.underlying2 wn⟩
end
theorem ownNone : ownKnob Tryd.prog.godebug = none := by kernel_rfl

/-- A struct local that has been laid and filled. -/
theorem laid2 {w w1 : World} {x y a b : Value} {T : TypeId} (h : Gr (((w.alloc (.cells #[x, y] T)).setCell ⟨w.heap.size, 0, none⟩ a).setCell ⟨w.heap.size, 1, none⟩ b) w1) :
    w1.heap[w.heap.size]? = some (.cells #[a, b] T) ∧ w.heap.size < w1.heap.size ∧ Gr w w1 := by
  have e0 : (w.alloc (.cells #[x, y] T)).heap[w.heap.size]? = some (.cells #[x, y] T) := by
    show (w.heap.push _)[w.heap.size]? = _; simp
  have e1 := block_setCell (i := 0) e0 a
  have e2 := block_setCell (i := 1) e1 b
  exact ⟨h.keep (by simpa using e2), by have := h.size; simp at this; omega, (((Gr.alloc w _).setCell (by simp) _).setCell (by simp) _).trans h⟩
theorem laid4 {w w1 : World} {x y z u a b c d : Value} {T : TypeId} (h : Gr (((((w.alloc (.cells #[x, y, z, u] T)).setCell ⟨w.heap.size, 0, none⟩ a).setCell ⟨w.heap.size, 1, none⟩ b).setCell ⟨w.heap.size, 2, none⟩ c).setCell ⟨w.heap.size, 3, none⟩ d) w1) :
    w1.heap[w.heap.size]? = some (.cells #[a, b, c, d] T) ∧ w.heap.size < w1.heap.size ∧ Gr w w1 := by
  have e0 : (w.alloc (.cells #[x, y, z, u] T)).heap[w.heap.size]? = some (.cells #[x, y, z, u] T) := by
    show (w.heap.push _)[w.heap.size]? = _; simp
  have e1 := block_setCell (i := 0) e0 a
  have e2 := block_setCell (i := 1) e1 b
  have e3 := block_setCell (i := 2) e2 c
  have e4 := block_setCell (i := 3) e3 d
  exact ⟨h.keep (by simpa using e4), by have := h.size; simp at this; omega, (((((Gr.alloc w _).setCell (by simp) _).setCell (by simp) _).setCell (by simp) _).setCell (by simp) _).trans h⟩
end Go.Proofs.YtkeflpcokcfcjaaDoor
namespace Go.Proofs.YtkeflpcokcfcjaaDoor
open Go.RowKit Go.Sort Go.ChangeShapes Go.WideShapes Go.ChangeAt Go.Joins Go.Deep

section
variable {H : Type} {enc : TypeId × Value → H} {W : World} {base : Nat} {spare : Nat → Bool} {held : Bool}
theorem list3 {α : Type} {cs : List α} (h : cs.length = 3) : ∃ c0 c1 c2, cs = [c0, c1, c2] := by
  match cs, h with
  | [c0, c1, c2], _ => exact ⟨c0, c1, c2, rfl⟩
theorem list5 {α : Type} {cs : List α} (h : cs.length = 5) : ∃ c0 c1 c2 c3 c4, cs = [c0, c1, c2, c3, c4] := by
  match cs, h with
  | [c0, c1, c2, c3, c4], _ => exact ⟨c0, c1, c2, c3, c4, rfl⟩
/-! a vernier -/
theorem cellsBool : Tryd.prog.cellsOf 4 = 1 := by kernel_rfl
theorem trod_bool_mk' {b : Bool} (m : Nat) : DataW.trod enc Tryd.prog W base spare held (m + 1) 4 [.bool b] = some (.lit (.bool b), []) := by
  obtain ⟨k, hk⟩ := shut_bool (enc := enc) (w := W) (base := base) (spare := spare) (held := held) Tryd.underlying4 b
  simp [DataW.trod, Tryd.underlying4]
/-! a spindle -/
/-! a screw -/
end
end Go.Proofs.YtkeflpcokcfcjaaDoor
