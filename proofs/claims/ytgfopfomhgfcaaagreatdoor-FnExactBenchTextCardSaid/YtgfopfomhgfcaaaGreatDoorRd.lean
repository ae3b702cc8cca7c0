/- READINGS: the structs of the laws' arguments as data, opened and shut. -/
import Derived.Test.YtgfopfomhgfcaaaGreatDoorB0
import Derived.Test.YtgfopfomhgfcaaaGreatDoorRows
import Derived.ProofKit
import Derived.Lib.SmallJoins
import Derived.Test.YtgfopfomhgfcaaaGreatDoorB1
import Derived.Deep.Strs
namespace Go.Proofs.YtgfopfomhgfcaaaGreatDoor
open Go.RowKit Go.Sort Go.ChangeShapes Go.WideShapes Go.ChangeAt Go.Joins

section
variable {H : Type} {enc : TypeId × Value → H} {W : World} {base : Nat} {spare : Nat → Bool} {held : Bool}
theorem list2 {α : Type} {cs : List α} (h : cs.length = 2) : ∃ c0 c1, cs = [c0, c1] := by
  match cs, h with
  | [c0, c1], _ => exact ⟨c0, c1, rfl⟩
theorem list4 {α : Type} {cs : List α} (h : cs.length = 4) : ∃ c0 c1 c2 c3, cs = [c0, c1, c2, c3] := by
  match cs, h with
  | [c0, c1, c2, c3], _ => exact ⟨c0, c1, c2, c3, rfl⟩
abbrev fd (p q : Int) : DataW H := .agg [.lit (.int .i64 p), .lit (.int .i64 q)]
theorem cellsFrac : Tryz.prog.cellsOf 23 = 2 := by kernel_rfl
theorem cellsInt : Tryz.prog.cellsOf 2 = 1 := by kernel_rfl
theorem trod_frac {n : Nat} {cs : List Value} {x : DataW H × List MemPlace} (h : DataW.trod enc Tryz.prog W base spare held n 23 cs = some x) :
    ∃ p q : Int, cs = [.int .i64 p, .int .i64 q] ∧ x = (fd p q, []) ∧ (Lit.int .i64 p).wf = true ∧ (Lit.int .i64 q).wf = true := by
  obtain ⟨y0, y1, m, hx, hl, h0, h1⟩ := trod_struct2 Tryz.underlying23 h
  rw [cellsFrac] at hl
  obtain ⟨c0, c1, rfl⟩ := list2 hl
  simp only [List.drop, List.take, cellsInt] at h0 h1
  obtain ⟨p, e0, rfl, wp⟩ := DataW.trod_int Tryz.underlying2 h0
  obtain ⟨q, e1, rfl, wq⟩ := DataW.trod_int Tryz.underlying2 h1
  simp at e0 e1
  subst e0 e1
  exact ⟨p, q, rfl, by simpa using hx, wp, wq⟩
theorem trod_frac_mk {p q : Int} (m : Nat) (wp : (Lit.int .i64 p).wf = true) (wq : (Lit.int .i64 q).wf = true) :
    DataW.trod enc Tryz.prog W base spare held (m + 2) 23 [.int .i64 p, .int .i64 q] = some (fd p q, []) := by
  exact trod_struct2_mk (y0 := (.lit (.int .i64 p), [])) (y1 := (.lit (.int .i64 q), [])) Tryz.underlying23 (by rw [cellsFrac]; rfl)
    (by simpa [List.drop, List.take, cellsInt] using trod_int_mk m Tryz.underlying2 wp) (by simpa [List.drop, List.take, cellsInt] using trod_int_mk m Tryz.underlying2 wq)
set_option maxRecDepth 100000 in
theorem open_frac {r : Reach} {b0 : Nat} {v : Value} {d : DataW H} {p : List MemPlace} (hv : Value.okWide Tryz.prog W r b0 23 v) (h : DataW.Trod enc Tryz.prog W base spare held 23 v d p) :
    ∃ a b : Int, v = fr a b ∧ d = fd a b ∧ p = [] ∧ (Lit.int .i64 a).wf = true ∧ (Lit.int .i64 b).wf = true := by
  obtain ⟨cs, rfl, hsz⟩ := okWide_struct Tryz.underlying23 hv
  obtain ⟨fuel, hf⟩ := h
  obtain ⟨a, b, hc, hx, wa, wb⟩ := trod_frac hf
  simp only [Prod.mk.injEq] at hx
  have : cs = #[.int .i64 a, .int .i64 b] := by
    cases cs; simpa [Value.cells] using hc
  subst this
  exact ⟨a, b, rfl, hx.1, hx.2, wa, wb⟩
theorem shut_frac {a b : Int} (wa : (Lit.int .i64 a).wf = true) (wb : (Lit.int .i64 b).wf = true) : DataW.Trod enc Tryz.prog W base spare held 23 (fr a b) (fd a b) [] :=
  ⟨2, trod_frac_mk 0 wa wb⟩
abbrev sd (a b c d : Int) : DataW H := .agg [fd a b, fd c d]
set_option maxRecDepth 100000 in
theorem open_i64 {v : Value} {d : DataW H} {p : List MemPlace} {r : Reach} {b0 : Nat} (hv : Value.okWide Tryz.prog W r b0 2 v) (h : DataW.Trod enc Tryz.prog W base spare held 2 v d p) :
    ∃ n : Int, v = .int .i64 n ∧ d = .lit (.int .i64 n) ∧ p = [] ∧ (Lit.int .i64 n).wf = true := by
  obtain ⟨n, rfl, rfl, rfl, wn⟩ := open_int Tryz.underlying2 hv h
  exact ⟨n, rfl, rfl, rfl, wn⟩
theorem shut_i64 {n : Int} (wn : (Lit.int .i64 n).wf = true) : DataW.Trod enc Tryz.prog W base spare held 2 (.int .i64 n) (.lit (.int .i64 n)) [] :=
  ⟨1, by simpa [Value.cells] using trod_int_mk 0 Tryz.underlying2 wn⟩
end
theorem ownNone : ownKnob Tryz.prog.godebug = none := by kernel_rfl

/-- A struct local that has been laid and filled. -/
theorem laid2 {w w1 : World} {x y a b : Value} {T : TypeId} (h : Gr (((w.alloc (.cells #[x, y] T)).setCell ⟨w.heap.size, 0, none⟩ a).setCell ⟨w.heap.size, 1, none⟩ b) w1) :
    w1.heap[w.heap.size]? = some (.cells #[a, b] T) ∧ w.heap.size < w1.heap.size ∧ Gr w w1 := by
  have e0 : (w.alloc (.cells #[x, y] T)).heap[w.heap.size]? = some (.cells #[x, y] T) := by
    show (w.heap.push _)[w.heap.size]? = _; simp
  have e1 := block_setCell (i := 0) e0 a
  have e2 := block_setCell (i := 1) e1 b
  exact ⟨h.keep (by simpa using e2), by have := h.size; simp at this; omega, (((Gr.alloc w _).setCell (by simp) _).setCell (by simp) _).trans h⟩
theorem laid4 {w w1 : World} {x y z u a b c d : Value} {T : TypeId} (h : Gr (((((w.alloc (.cells #[x, y, z, u] T)).setCell ⟨w.heap.size, 0, none⟩ a).setCell ⟨w.heap.size, 1, none⟩ b).setCell ⟨w.heap.size, 2, none⟩ c).setCell ⟨w.heap.size, 3, none⟩ d) w1) :
    w1.heap[w.heap.size]? = some (.cells #[a, b, c, d] T) ∧ w.heap.size < w1.heap.size ∧ Gr w w1 := by
  have e0 : (w.alloc (.cells #[x, y, z, u] T)).heap[w.heap.size]? = some (.cells #[x, y, z, u] T) := by
    show (w.heap.push _)[w.heap.size]? = _; simp
  have e1 := block_setCell (i := 0) e0 a
  have e2 := block_setCell (i := 1) e1 b
  have e3 := block_setCell (i := 2) e2 c
  have e4 := block_setCell (i := 3) e3 d
  exact ⟨h.keep (by simpa using e4), by have := h.size; simp at this; omega, (((((Gr.alloc w _).setCell (by simp) _).setCell (by simp) _).setCell (by simp) _).setCell (by simp) _).trans h⟩
end Go.Proofs.YtgfopfomhgfcaaaGreatDoor
namespace Go.Proofs.YtgfopfomhgfcaaaGreatDoor
open Go.RowKit Go.Sort Go.ChangeShapes Go.WideShapes Go.ChangeAt Go.Joins Go.Deep

section
variable {H : Type} {enc : TypeId × Value → H} {W : World} {base : Nat} {spare : Nat → Bool} {held : Bool}
theorem list3 {α : Type} {cs : List α} (h : cs.length = 3) : ∃ c0 c1 c2, cs = [c0, c1, c2] := by
  match cs, h with
  | [c0, c1, c2], _ => exact ⟨c0, c1, c2, rfl⟩
theorem list5 {α : Type} {cs : List α} (h : cs.length = 5) : ∃ c0 c1 c2 c3 c4, cs = [c0, c1, c2, c3, c4] := by
  match cs, h with
  | [c0, c1, c2, c3, c4], _ => exact ⟨c0, c1, c2, c3, c4, rfl⟩
/-! a vernier -/
theorem cellsVernier : Tryz.prog.cellsOf 28 = 2 := by kernel_rfl
theorem cellsBool : Tryz.prog.cellsOf 4 = 1 := by kernel_rfl
theorem trod_bool_mk' {b : Bool} (m : Nat) : DataW.trod enc Tryz.prog W base spare held (m + 1) 4 [.bool b] = some (.lit (.bool b), []) := by
  obtain ⟨k, hk⟩ := shut_bool (enc := enc) (w := W) (base := base) (spare := spare) (held := held) Tryz.underlying4 b
  simp [DataW.trod, Tryz.underlying4]
set_option maxRecDepth 100000 in
theorem open_vernier {r : Reach} {b0 : Nat} {v : Value} {d : DataW H} {p : List MemPlace} (hv : Value.okWide Tryz.prog W r b0 28 v) (h : DataW.Trod enc Tryz.prog W base spare held 28 v d p) :
    ∃ (n : Int) (b : Bool), v = vn n b ∧ d = .agg [.lit (.int .i64 n), .lit (.bool b)] ∧ p = [] ∧ (Lit.int .i64 n).wf = true := by
  obtain ⟨cs, rfl, hsz⟩ := okWide_struct Tryz.underlying28 hv
  obtain ⟨fuel, hf⟩ := h
  obtain ⟨y0, y1, m, hx, hl, h0, h1⟩ := trod_struct2 Tryz.underlying28 hf
  rw [cellsVernier] at hl
  obtain ⟨c0, c1, hc⟩ := list2 hl
  rw [hc] at h0 h1
  simp only [List.drop, List.take, cellsInt, cellsBool] at h0 h1
  obtain ⟨n, e0, rfl, wn⟩ := DataW.trod_int Tryz.underlying2 h0
  obtain ⟨b, e1, rfl⟩ := DataW.trod_bool Tryz.underlying4 h1
  simp at e0 e1
  subst e0 e1
  simp only [Prod.mk.injEq] at hx
  have : cs = #[.int .i64 n, .bool b] := by
    cases cs; simpa [Value.cells] using hc
  subst this
  exact ⟨n, b, rfl, hx.1, by simpa using hx.2, wn⟩
theorem shut_vernier {n : Int} {b : Bool} (wn : (Lit.int .i64 n).wf = true) : DataW.Trod enc Tryz.prog W base spare held 28 (vn n b) (.agg [.lit (.int .i64 n), .lit (.bool b)]) [] :=
  ⟨2, trod_struct2_mk (y0 := (.lit (.int .i64 n), [])) (y1 := (.lit (.bool b), [])) Tryz.underlying28 (by rw [cellsVernier]; rfl)
    (by simpa [List.drop, List.take, cellsInt, Value.cells] using trod_int_mk 0 Tryz.underlying2 wn) (by simpa [List.drop, List.take, cellsBool, Value.cells] using trod_bool_mk' 0)⟩
/-! a spindle -/
/-! a screw -/
end
end Go.Proofs.YtgfopfomhgfcaaaGreatDoor
