/- Observations: compared as wholes; valid, of the program. -/
import Derived.Test.YtkeflpcokcfcjaaDoorOb
import Derived.DeepKeys
import Derived.Test.YtkeflpcokcfcjaaDoorJ
namespace Go.Proofs.YtkeflpcokcfcjaaDoor
open Go.RowKit Go.Sort

theorem part_one {t : TypeId} (h : ∀ w : World, (isAgg t).run Tryd.prog w = .ok false w) (xs : Array Value) (j : Nat) (v : Value) (w : World) (hv : xs[j]? = some v) : (part t xs j).run Tryd.prog w = .ok v w := by
  simp [part, h, hv]
theorem eqI8 (d : Nat) (a b : Int) (w : World) : (Op.equalIn (d + 1) 64 (.int .i8 a) (.int .i8 b)).run Tryd.prog w = .ok (a == b) w := by
  simp [Op.equalIn, go_sem]
set_option maxRecDepth 20000 in
theorem eqA6 (d : Nat) (c0 c1 c2 c3 c4 c5 d0 d1 d2 d3 d4 d5 : Int) (w : World) : (Op.equalIn (d + 1 + 1) 65 (.agg #[.int .i8 c0, .int .i8 c1, .int .i8 c2, .int .i8 c3, .int .i8 c4, .int .i8 c5]) (.agg #[.int .i8 d0, .int .i8 d1, .int .i8 d2, .int .i8 d3, .int .i8 d4, .int .i8 d5])).run Tryd.prog w = .ok (c0 == d0 && (c1 == d1 && (c2 == d2 && (c3 == d3 && (c4 == d4 && (c5 == d5)))))) w := by
  obtain ⟨i, hi⟩ : ∃ i, Tryd.prog.info? 64 = some i := ⟨_, rfl⟩
  have h := run_equalIn_array (P := Tryd.prog) (w := w) (d + 1) (t := 65) (e := 64) (n := 6) (i := i) #[.int .i8 c0, .int .i8 c1, .int .i8 c2, .int .i8 c3, .int .i8 c4, .int .i8 c5] #[.int .i8 d0, .int .i8 d1, .int .i8 d2, .int .i8 d3, .int .i8 d4, .int .i8 d5] Tryd.underlying65 hi
  have hc : Tryd.prog.cellsOf 64 = 1 := by kernel_rfl
  have ha : ∀ w : World, (isAgg 64).run Tryd.prog w = .ok false w := fun w => by kernel_rfl
  rw [h, hc]
  cases k0 : (c0 == d0) with
  | false => simp [List.range, List.range.loop, Op.eqItems, (fun w => part_one ha #[.int .i8 c0, .int .i8 c1, .int .i8 c2, .int .i8 c3, .int .i8 c4, .int .i8 c5] 0 (.int .i8 c0) w rfl), (fun w => part_one ha #[.int .i8 d0, .int .i8 d1, .int .i8 d2, .int .i8 d3, .int .i8 d4, .int .i8 d5] 0 (.int .i8 d0) w rfl), (fun w => part_one ha #[.int .i8 c0, .int .i8 c1, .int .i8 c2, .int .i8 c3, .int .i8 c4, .int .i8 c5] 1 (.int .i8 c1) w rfl), (fun w => part_one ha #[.int .i8 d0, .int .i8 d1, .int .i8 d2, .int .i8 d3, .int .i8 d4, .int .i8 d5] 1 (.int .i8 d1) w rfl), (fun w => part_one ha #[.int .i8 c0, .int .i8 c1, .int .i8 c2, .int .i8 c3, .int .i8 c4, .int .i8 c5] 2 (.int .i8 c2) w rfl), (fun w => part_one ha #[.int .i8 d0, .int .i8 d1, .int .i8 d2, .int .i8 d3, .int .i8 d4, .int .i8 d5] 2 (.int .i8 d2) w rfl), (fun w => part_one ha #[.int .i8 c0, .int .i8 c1, .int .i8 c2, .int .i8 c3, .int .i8 c4, .int .i8 c5] 3 (.int .i8 c3) w rfl), (fun w => part_one ha #[.int .i8 d0, .int .i8 d1, .int .i8 d2, .int .i8 d3, .int .i8 d4, .int .i8 d5] 3 (.int .i8 d3) w rfl), (fun w => part_one ha #[.int .i8 c0, .int .i8 c1, .int .i8 c2, .int .i8 c3, .int .i8 c4, .int .i8 c5] 4 (.int .i8 c4) w rfl), (fun w => part_one ha #[.int .i8 d0, .int .i8 d1, .int .i8 d2, .int .i8 d3, .int .i8 d4, .int .i8 d5] 4 (.int .i8 d4) w rfl), (fun w => part_one ha #[.int .i8 c0, .int .i8 c1, .int .i8 c2, .int .i8 c3, .int .i8 c4, .int .i8 c5] 5 (.int .i8 c5) w rfl), (fun w => part_one ha #[.int .i8 d0, .int .i8 d1, .int .i8 d2, .int .i8 d3, .int .i8 d4, .int .i8 d5] 5 (.int .i8 d5) w rfl), eqI8, k0]
  | true =>
    cases k1 : (c1 == d1) with
    | false => simp [List.range, List.range.loop, Op.eqItems, (fun w => part_one ha #[.int .i8 c0, .int .i8 c1, .int .i8 c2, .int .i8 c3, .int .i8 c4, .int .i8 c5] 0 (.int .i8 c0) w rfl), (fun w => part_one ha #[.int .i8 d0, .int .i8 d1, .int .i8 d2, .int .i8 d3, .int .i8 d4, .int .i8 d5] 0 (.int .i8 d0) w rfl), (fun w => part_one ha #[.int .i8 c0, .int .i8 c1, .int .i8 c2, .int .i8 c3, .int .i8 c4, .int .i8 c5] 1 (.int .i8 c1) w rfl), (fun w => part_one ha #[.int .i8 d0, .int .i8 d1, .int .i8 d2, .int .i8 d3, .int .i8 d4, .int .i8 d5] 1 (.int .i8 d1) w rfl), (fun w => part_one ha #[.int .i8 c0, .int .i8 c1, .int .i8 c2, .int .i8 c3, .int .i8 c4, .int .i8 c5] 2 (.int .i8 c2) w rfl), (fun w => part_one ha #[.int .i8 d0, .int .i8 d1, .int .i8 d2, .int .i8 d3, .int .i8 d4, .int .i8 d5] 2 (.int .i8 d2) w rfl), (fun w => part_one ha #[.int .i8 c0, .int .i8 c1, .int .i8 c2, .int .i8 c3, .int .i8 c4, .int .i8 c5] 3 (.int .i8 c3) w rfl), (fun w => part_one ha #[.int .i8 d0, .int .i8 d1, .int .i8 d2, .int .i8 d3, .int .i8 d4, .int .i8 d5] 3 (.int .i8 d3) w rfl), (fun w => part_one ha #[.int .i8 c0, .int .i8 c1, .int .i8 c2, .int .i8 c3, .int .i8 c4, .int .i8 c5] 4 (.int .i8 c4) w rfl), (fun w => part_one ha #[.int .i8 d0, .int .i8 d1, .int .i8 d2, .int .i8 d3, .int .i8 d4, .int .i8 d5] 4 (.int .i8 d4) w rfl), (fun w => part_one ha #[.int .i8 c0, .int .i8 c1, .int .i8 c2, .int .i8 c3, .int .i8 c4, .int .i8 c5] 5 (.int .i8 c5) w rfl), (fun w => part_one ha #[.int .i8 d0, .int .i8 d1, .int .i8 d2, .int .i8 d3, .int .i8 d4, .int .i8 d5] 5 (.int .i8 d5) w rfl), eqI8, k0, k1]
    | true =>
      cases k2 : (c2 == d2) with
      | false => simp [List.range, List.range.loop, Op.eqItems, (fun w => part_one ha #[.int .i8 c0, .int .i8 c1, .int .i8 c2, .int .i8 c3, .int .i8 c4, .int .i8 c5] 0 (.int .i8 c0) w rfl), (fun w => part_one ha #[.int .i8 d0, .int .i8 d1, .int .i8 d2, .int .i8 d3, .int .i8 d4, .int .i8 d5] 0 (.int .i8 d0) w rfl), (fun w => part_one ha #[.int .i8 c0, .int .i8 c1, .int .i8 c2, .int .i8 c3, .int .i8 c4, .int .i8 c5] 1 (.int .i8 c1) w rfl), (fun w => part_one ha #[.int .i8 d0, .int .i8 d1, .int .i8 d2, .int .i8 d3, .int .i8 d4, .int .i8 d5] 1 (.int .i8 d1) w rfl), (fun w => part_one ha #[.int .i8 c0, .int .i8 c1, .int .i8 c2, .int .i8 c3, .int .i8 c4, .int .i8 c5] 2 (.int .i8 c2) w rfl), (fun w => part_one ha #[.int .i8 d0, .int .i8 d1, .int .i8 d2, .int .i8 d3, .int .i8 d4, .int .i8 d5] 2 (.int .i8 d2) w rfl), (fun w => part_one ha #[.int .i8 c0, .int .i8 c1, .int .i8 c2, .int .i8 c3, .int .i8 c4, .int .i8 c5] 3 (.int .i8 c3) w rfl), (fun w => part_one ha #[.int .i8 d0, .int .i8 d1, .int .i8 d2, .int .i8 d3, .int .i8 d4, .int .i8 d5] 3 (.int .i8 d3) w rfl), (fun w => part_one ha #[.int .i8 c0, .int .i8 c1, .int .i8 c2, .int .i8 c3, .int .i8 c4, .int .i8 c5] 4 (.int .i8 c4) w rfl), (fun w => part_one ha #[.int .i8 d0, .int .i8 d1, .int .i8 d2, .int .i8 d3, .int .i8 d4, .int .i8 d5] 4 (.int .i8 d4) w rfl), (fun w => part_one ha #[.int .i8 c0, .int .i8 c1, .int .i8 c2, .int .i8 c3, .int .i8 c4, .int .i8 c5] 5 (.int .i8 c5) w rfl), (fun w => part_one ha #[.int .i8 d0, .int .i8 d1, .int .i8 d2, .int .i8 d3, .int .i8 d4, .int .i8 d5] 5 (.int .i8 d5) w rfl), eqI8, k0, k1, k2]
      | true =>
        cases k3 : (c3 == d3) with
        | false => simp [List.range, List.range.loop, Op.eqItems, (fun w => part_one ha #[.int .i8 c0, .int .i8 c1, .int .i8 c2, .int .i8 c3, .int .i8 c4, .int .i8 c5] 0 (.int .i8 c0) w rfl), (fun w => part_one ha #[.int .i8 d0, .int .i8 d1, .int .i8 d2, .int .i8 d3, .int .i8 d4, .int .i8 d5] 0 (.int .i8 d0) w rfl), (fun w => part_one ha #[.int .i8 c0, .int .i8 c1, .int .i8 c2, .int .i8 c3, .int .i8 c4, .int .i8 c5] 1 (.int .i8 c1) w rfl), (fun w => part_one ha #[.int .i8 d0, .int .i8 d1, .int .i8 d2, .int .i8 d3, .int .i8 d4, .int .i8 d5] 1 (.int .i8 d1) w rfl), (fun w => part_one ha #[.int .i8 c0, .int .i8 c1, .int .i8 c2, .int .i8 c3, .int .i8 c4, .int .i8 c5] 2 (.int .i8 c2) w rfl), (fun w => part_one ha #[.int .i8 d0, .int .i8 d1, .int .i8 d2, .int .i8 d3, .int .i8 d4, .int .i8 d5] 2 (.int .i8 d2) w rfl), (fun w => part_one ha #[.int .i8 c0, .int .i8 c1, .int .i8 c2, .int .i8 c3, .int .i8 c4, .int .i8 c5] 3 (.int .i8 c3) w rfl), (fun w => part_one ha #[.int .i8 d0, .int .i8 d1, .int .i8 d2, .int .i8 d3, .int .i8 d4, .int .i8 d5] 3 (.int .i8 d3) w rfl), (fun w => part_one ha #[.int .i8 c0, .int .i8 c1, .int .i8 c2, .int .i8 c3, .int .i8 c4, .int .i8 c5] 4 (.int .i8 c4) w rfl), (fun w => part_one ha #[.int .i8 d0, .int .i8 d1, .int .i8 d2, .int .i8 d3, .int .i8 d4, .int .i8 d5] 4 (.int .i8 d4) w rfl), (fun w => part_one ha #[.int .i8 c0, .int .i8 c1, .int .i8 c2, .int .i8 c3, .int .i8 c4, .int .i8 c5] 5 (.int .i8 c5) w rfl), (fun w => part_one ha #[.int .i8 d0, .int .i8 d1, .int .i8 d2, .int .i8 d3, .int .i8 d4, .int .i8 d5] 5 (.int .i8 d5) w rfl), eqI8, k0, k1, k2, k3]
        | true =>
          cases k4 : (c4 == d4) with
          | false => simp [List.range, List.range.loop, Op.eqItems, (fun w => part_one ha #[.int .i8 c0, .int .i8 c1, .int .i8 c2, .int .i8 c3, .int .i8 c4, .int .i8 c5] 0 (.int .i8 c0) w rfl), (fun w => part_one ha #[.int .i8 d0, .int .i8 d1, .int .i8 d2, .int .i8 d3, .int .i8 d4, .int .i8 d5] 0 (.int .i8 d0) w rfl), (fun w => part_one ha #[.int .i8 c0, .int .i8 c1, .int .i8 c2, .int .i8 c3, .int .i8 c4, .int .i8 c5] 1 (.int .i8 c1) w rfl), (fun w => part_one ha #[.int .i8 d0, .int .i8 d1, .int .i8 d2, .int .i8 d3, .int .i8 d4, .int .i8 d5] 1 (.int .i8 d1) w rfl), (fun w => part_one ha #[.int .i8 c0, .int .i8 c1, .int .i8 c2, .int .i8 c3, .int .i8 c4, .int .i8 c5] 2 (.int .i8 c2) w rfl), (fun w => part_one ha #[.int .i8 d0, .int .i8 d1, .int .i8 d2, .int .i8 d3, .int .i8 d4, .int .i8 d5] 2 (.int .i8 d2) w rfl), (fun w => part_one ha #[.int .i8 c0, .int .i8 c1, .int .i8 c2, .int .i8 c3, .int .i8 c4, .int .i8 c5] 3 (.int .i8 c3) w rfl), (fun w => part_one ha #[.int .i8 d0, .int .i8 d1, .int .i8 d2, .int .i8 d3, .int .i8 d4, .int .i8 d5] 3 (.int .i8 d3) w rfl), (fun w => part_one ha #[.int .i8 c0, .int .i8 c1, .int .i8 c2, .int .i8 c3, .int .i8 c4, .int .i8 c5] 4 (.int .i8 c4) w rfl), (fun w => part_one ha #[.int .i8 d0, .int .i8 d1, .int .i8 d2, .int .i8 d3, .int .i8 d4, .int .i8 d5] 4 (.int .i8 d4) w rfl), (fun w => part_one ha #[.int .i8 c0, .int .i8 c1, .int .i8 c2, .int .i8 c3, .int .i8 c4, .int .i8 c5] 5 (.int .i8 c5) w rfl), (fun w => part_one ha #[.int .i8 d0, .int .i8 d1, .int .i8 d2, .int .i8 d3, .int .i8 d4, .int .i8 d5] 5 (.int .i8 d5) w rfl), eqI8, k0, k1, k2, k3, k4]
          | true =>
            cases k5 : (c5 == d5) with
            | false => simp [List.range, List.range.loop, Op.eqItems, (fun w => part_one ha #[.int .i8 c0, .int .i8 c1, .int .i8 c2, .int .i8 c3, .int .i8 c4, .int .i8 c5] 0 (.int .i8 c0) w rfl), (fun w => part_one ha #[.int .i8 d0, .int .i8 d1, .int .i8 d2, .int .i8 d3, .int .i8 d4, .int .i8 d5] 0 (.int .i8 d0) w rfl), (fun w => part_one ha #[.int .i8 c0, .int .i8 c1, .int .i8 c2, .int .i8 c3, .int .i8 c4, .int .i8 c5] 1 (.int .i8 c1) w rfl), (fun w => part_one ha #[.int .i8 d0, .int .i8 d1, .int .i8 d2, .int .i8 d3, .int .i8 d4, .int .i8 d5] 1 (.int .i8 d1) w rfl), (fun w => part_one ha #[.int .i8 c0, .int .i8 c1, .int .i8 c2, .int .i8 c3, .int .i8 c4, .int .i8 c5] 2 (.int .i8 c2) w rfl), (fun w => part_one ha #[.int .i8 d0, .int .i8 d1, .int .i8 d2, .int .i8 d3, .int .i8 d4, .int .i8 d5] 2 (.int .i8 d2) w rfl), (fun w => part_one ha #[.int .i8 c0, .int .i8 c1, .int .i8 c2, .int .i8 c3, .int .i8 c4, .int .i8 c5] 3 (.int .i8 c3) w rfl), (fun w => part_one ha #[.int .i8 d0, .int .i8 d1, .int .i8 d2, .int .i8 d3, .int .i8 d4, .int .i8 d5] 3 (.int .i8 d3) w rfl), (fun w => part_one ha #[.int .i8 c0, .int .i8 c1, .int .i8 c2, .int .i8 c3, .int .i8 c4, .int .i8 c5] 4 (.int .i8 c4) w rfl), (fun w => part_one ha #[.int .i8 d0, .int .i8 d1, .int .i8 d2, .int .i8 d3, .int .i8 d4, .int .i8 d5] 4 (.int .i8 d4) w rfl), (fun w => part_one ha #[.int .i8 c0, .int .i8 c1, .int .i8 c2, .int .i8 c3, .int .i8 c4, .int .i8 c5] 5 (.int .i8 c5) w rfl), (fun w => part_one ha #[.int .i8 d0, .int .i8 d1, .int .i8 d2, .int .i8 d3, .int .i8 d4, .int .i8 d5] 5 (.int .i8 d5) w rfl), eqI8, k0, k1, k2, k3, k4, k5]
            | true =>
              simp [List.range, List.range.loop, Op.eqItems, (fun w => part_one ha #[.int .i8 c0, .int .i8 c1, .int .i8 c2, .int .i8 c3, .int .i8 c4, .int .i8 c5] 0 (.int .i8 c0) w rfl), (fun w => part_one ha #[.int .i8 d0, .int .i8 d1, .int .i8 d2, .int .i8 d3, .int .i8 d4, .int .i8 d5] 0 (.int .i8 d0) w rfl), (fun w => part_one ha #[.int .i8 c0, .int .i8 c1, .int .i8 c2, .int .i8 c3, .int .i8 c4, .int .i8 c5] 1 (.int .i8 c1) w rfl), (fun w => part_one ha #[.int .i8 d0, .int .i8 d1, .int .i8 d2, .int .i8 d3, .int .i8 d4, .int .i8 d5] 1 (.int .i8 d1) w rfl), (fun w => part_one ha #[.int .i8 c0, .int .i8 c1, .int .i8 c2, .int .i8 c3, .int .i8 c4, .int .i8 c5] 2 (.int .i8 c2) w rfl), (fun w => part_one ha #[.int .i8 d0, .int .i8 d1, .int .i8 d2, .int .i8 d3, .int .i8 d4, .int .i8 d5] 2 (.int .i8 d2) w rfl), (fun w => part_one ha #[.int .i8 c0, .int .i8 c1, .int .i8 c2, .int .i8 c3, .int .i8 c4, .int .i8 c5] 3 (.int .i8 c3) w rfl), (fun w => part_one ha #[.int .i8 d0, .int .i8 d1, .int .i8 d2, .int .i8 d3, .int .i8 d4, .int .i8 d5] 3 (.int .i8 d3) w rfl), (fun w => part_one ha #[.int .i8 c0, .int .i8 c1, .int .i8 c2, .int .i8 c3, .int .i8 c4, .int .i8 c5] 4 (.int .i8 c4) w rfl), (fun w => part_one ha #[.int .i8 d0, .int .i8 d1, .int .i8 d2, .int .i8 d3, .int .i8 d4, .int .i8 d5] 4 (.int .i8 d4) w rfl), (fun w => part_one ha #[.int .i8 c0, .int .i8 c1, .int .i8 c2, .int .i8 c3, .int .i8 c4, .int .i8 c5] 5 (.int .i8 c5) w rfl), (fun w => part_one ha #[.int .i8 d0, .int .i8 d1, .int .i8 d2, .int .i8 d3, .int .i8 d4, .int .i8 d5] 5 (.int .i8 d5) w rfl), eqI8, k0, k1, k2, k3, k4, k5]
set_option maxRecDepth 20000 in
theorem eqA6z (c0 c1 c2 c3 c4 c5 : Int) (r : Bool) (hr : (c0 == 0 && (c1 == 0 && (c2 == 0 && (c3 == 0 && (c4 == 0 && (c5 == 0)))))) = r) (w : World) : (binOp .eql 65 (.agg #[.int .i8 c0, .int .i8 c1, .int .i8 c2, .int .i8 c3, .int .i8 c4, .int .i8 c5]) (.agg #[.int .i8 0, .int .i8 0, .int .i8 0, .int .i8 0, .int .i8 0, .int .i8 0])).run Tryd.prog w = .ok (.bool r) w := by
  have h : (binOp .eql 65 (.agg #[.int .i8 c0, .int .i8 c1, .int .i8 c2, .int .i8 c3, .int .i8 c4, .int .i8 c5]) (.agg #[.int .i8 0, .int .i8 0, .int .i8 0, .int .i8 0, .int .i8 0, .int .i8 0])).run Tryd.prog w = ((Op.equalIn 10000 65 (.agg #[.int .i8 c0, .int .i8 c1, .int .i8 c2, .int .i8 c3, .int .i8 c4, .int .i8 c5]) (.agg #[.int .i8 0, .int .i8 0, .int .i8 0, .int .i8 0, .int .i8 0, .int .i8 0])).run Tryd.prog w).andThen fun b w' => .ok (.bool b) w' := by
    simp [go_sem]
  rw [h, show (10000 : Nat) = 9998 + 1 + 1 from rfl, eqA6, Result.andThen_ok, hr]

end Go.Proofs.YtkeflpcokcfcjaaDoor
namespace Go.Proofs.YtkeflpcokcfcjaaDoor
open Go.RowKit Go.Sort

/-- A slice that reads as these int8. -/
def RdE (w : World) (A : Option Addr) (xs : List Int) : Prop := ∀ (k : Nat) (p : Int), xs[k]? = some p → ∃ ad, A = some ad ∧ w.cell? (ad.add k) = some (.int .i8 p)
def okE (x : Int) : Bool := decide (-128 ≤ x) && decide (x ≤ 127)
theorem okE_bd {x : Int} (h : okE x = true) : -128 ≤ x ∧ x ≤ 127 := by unfold okE at h; simpa using h
theorem RdE.keep {w w' : World} {A : Option Addr} {xs : List Int} (h : RdE w A xs) (hg : Gr w w') : RdE w' A xs := fun k p hk => by
  obtain ⟨ad, e, c⟩ := h k p hk
  exact ⟨ad, e, (hg.cellI (World.block_lt_of_cell? _ _ c)).trans c⟩
theorem add_at2 (g m k : Nat) : (⟨g, m, none⟩ : Addr).add k = ⟨g, m + k, none⟩ := by
  unfold Addr.add
  by_cases h : k = 0 <;> simp [h]
set_option maxRecDepth 20000 in
set_option maxHeartbeats 1000000 in
theorem iIndexE (F : Nat) (f : Int → Bool) (A : Option Addr) (c : Nat) (xs : List Int) (w : World) (X : Hid (RdE w A xs)) (hn : xs.length ≤ 1048576) (hh : xs.all okE = true)
    (hen : ∀ s w, (callFunc F #[.int .i8 s]).run Tryd.prog w = .ok (.enter F #[.int .i8 s]) w) (hF : ∀ s w, -128 ≤ s → s ≤ 127 → Calls Tryd.prog F #[.int .i8 s] w fun e w' => e = .returned (.bool (!f s)) ∧ w = w') :
    Calls Tryd.prog 95 #[.slice A xs.length c, .func (.func F) #[] #[]] w fun e w' => (∃ r : Int, e = .returned (.int .i64 r) ∧ decide (0 ≤ r) = !xs.all f) ∧ w = w' := by
  have HF := hid hF; have HH := hid hh; clear hF hh
  go_enter Tryd.func95, Tryd.ntmps95
  go_wp2_with fail
  go_loopw [8] (fun u wr => ∃ (k : Nat), u = .int .i64 (k : Int) ∧ k ≤ xs.length ∧ (xs.take k).all f = true ∧ wr = w) (fun u _ => xs.length - (intOf u).toNat)
  case atStart => exact ⟨0, rfl, by omega, by simp, by simp⟩
  case round =>
    obtain ⟨k, rfl, hk, ha, rfl⟩ := hrel
    have HA := hid ha; clear ha
    by_cases hlt : k < xs.length
    · obtain ⟨p, hp⟩ : ∃ p, xs[k]? = some p := ⟨xs[k], List.getElem?_eq_getElem _⟩
      obtain ⟨ad, rfl, c1⟩ := X.out k p hp
      obtain ⟨b1, b2⟩ := okE_bd (allI_get hp HH.out)
      have HP := hid hp; clear hp
      cases hx : f p with
      | true =>
        have HX := hid hx
        go_wp2_with fail
        refine (HF.out _ _ b1 b2).mono ?_
        rintro e w1 ⟨rfl, rfl⟩
        rw [HX.out]
        go_wp2_with fail
        exact ⟨⟨k + 1, by simp, by omega, allI_take HP.out HA.out HX.out, by simp⟩, by simp [intOf]; omega⟩
      | false =>
        have HX := hid hx
        go_wp2_with fail
        refine (HF.out _ _ b1 b2).mono ?_
        rintro e w1 ⟨rfl, rfl⟩
        rw [HX.out]
        go_wp2_with fail
        go_ret
        exact ⟨⟨_, rfl, by rw [allI_not HP.out HX.out]; simp⟩, rfl⟩
    · have hke : k = xs.length := by omega
      have hall : xs.all f = true := by have := HA.out; rwa [hke, List.take_length] at this
      have HALL := hid hall; clear hall hke
      go_wp2_with fail
      go_ret
      exact ⟨⟨_, rfl, by rw [HALL.out]; simp⟩, by simp⟩
set_option maxRecDepth 20000 in
set_option maxHeartbeats 1000000 in
theorem iContE (F : Nat) (f : Int → Bool) (A : Option Addr) (c : Nat) (xs : List Int) (w : World) (X : Hid (RdE w A xs)) (hn : xs.length ≤ 1048576) (hh : xs.all okE = true)
    (hen : ∀ s w, (callFunc F #[.int .i8 s]).run Tryd.prog w = .ok (.enter F #[.int .i8 s]) w) (hF : ∀ s w, -128 ≤ s → s ≤ 127 → Calls Tryd.prog F #[.int .i8 s] w fun e w' => e = .returned (.bool (!f s)) ∧ w = w') :
    Calls Tryd.prog 77 #[.slice A xs.length c, .func (.func F) #[] #[]] w fun e w' => e = .returned (.bool (!xs.all f)) ∧ w = w' := by
  have HI := hid (iIndexE F f A c xs w X hn hh hen hF); clear hen hF hh
  go_enter Tryd.func77, Tryd.ntmps77
  go_wp2_with fail
  refine HI.out.mono ?_
  rintro e w1 ⟨⟨r, rfl, hr⟩, rfl⟩
  have HR := hid hr; clear hr
  go_wp2_with fail
  go_ret
  exact ⟨ret_bool (by rw [← HR.out]), rfl⟩

theorem iContEm (F : Nat) (f : Int → Bool) (A : Option Addr) (c m : Nat) (xs : List Int) (w : World) (hm : xs.length = m) (X : Hid (RdE w A xs)) (hn : m ≤ 1048576) (hh : xs.all okE = true)
    (hen : ∀ s w, (callFunc F #[.int .i8 s]).run Tryd.prog w = .ok (.enter F #[.int .i8 s]) w) (hF : ∀ s w, -128 ≤ s → s ≤ 127 → Calls Tryd.prog F #[.int .i8 s] w fun e w' => e = .returned (.bool (!f s)) ∧ w = w') :
    Calls Tryd.prog 77 #[.slice A m c, .func (.func F) #[] #[]] w fun e w' => e = .returned (.bool (!xs.all f)) ∧ w = w' := by
  subst hm
  exact iContE F f A c xs w X hn hh hen hF

/-! an observation that is valid -/
def coL (x : Obv) : List Int := [x.c0, x.c1, x.c2, x.c3, x.c4, x.c5]
def zB (c : Int) : Bool := c == 0
def rgB (c : Int) : Bool := inB c (-3) 3
def noB (x : Obv) : Bool := x.c0 == 0 && (x.c1 == 0 && (x.c2 == 0 && (x.c3 == 0 && (x.c4 == 0 && x.c5 == 0))))
def obB (x : Obv) (n : Nat) : Bool := (!noB x && ((coL x).all rgB && ((coL x).drop n).all zB)) && (okB x.p x.q && inB x.t 1 100)
theorem noB_all (x : Obv) : noB x = (coL x).all zB := by simp [noB, coL, zB]
def wfE (x : Obv) : Bool := (coL x).all okE
theorem wfE_drop {x : Obv} (h : wfE x = true) (n : Nat) : ((coL x).drop n).all okE = true := by
  unfold wfE at h
  rw [List.all_eq_true] at h ⊢
  exact fun y hy => h y (List.mem_of_mem_drop hy)
theorem co_end (w : World) (A : Option Addr) (x : Obv) : RdE w A ((coL x).drop 6) := fun k p hk => by simp [coL] at hk
theorem gt3 (x : Int) : gtB x 3 = !rgB x := by
  unfold gtB rgB inB
  by_cases h1 : x < -3
  · simp [h1]; try omega
  · by_cases h2 : 3 < x
    · simp [h2]
    · simp [h1, h2]; omega
set_option maxRecDepth 20000 in
set_option maxHeartbeats 400000 in
theorem iNoneE (s : Int) (w : World) (h1 : -128 ≤ s) (h2 : s ≤ 127) : Calls Tryd.prog 75 #[.int .i8 s] w fun e w' => e = .returned (.bool (!rgB s)) ∧ w = w' := by
  go_enter Tryd.func75, Tryd.ntmps75
  go_wp2_with (go_at_call 54; refine (gt_any _ _ _ (by omega) (by omega)).mono ?_; rintro e w1 ⟨rfl, rfl⟩; rw [gt3])
  go_ret
  exact ⟨rfl, rfl⟩
set_option maxRecDepth 20000 in
set_option maxHeartbeats 400000 in
theorem iUsedE (s : Int) (w : World) (_h1 : -128 ≤ s) (_h2 : s ≤ 127) : Calls Tryd.prog 76 #[.int .i8 s] w fun e w' => e = .returned (.bool (!zB s)) ∧ w = w' := by
  go_enter Tryd.func76, Tryd.ntmps76
  go_wp2
  go_ret
  exact ⟨ret_bool (by unfold zB; rfl), rfl⟩
/-- The coefficients in the box of an observation, from one on. -/
theorem box_co {w : World} {b : Nat} {x : Obv} {T : TypeId} (h : w.heap[b]? = some (.cells #[.int .i8 x.c0, .int .i8 x.c1, .int .i8 x.c2, .int .i8 x.c3, .int .i8 x.c4, .int .i8 x.c5, .int .i64 x.p, .int .i64 x.q, .int .i64 x.t] T)) (n : Nat) : RdE w (some ⟨b, n, none⟩) ((coL x).drop n) := fun k p hk => by
  obtain ⟨h0, h1, h2, h3, h4, h5, _, _, _⟩ := cells9 h
  rw [List.getElem?_drop] at hk
  refine ⟨_, rfl, ?_⟩
  rw [add_at2]
  have hk6 : n + k < 6 := by have := (List.getElem?_eq_some_iff.1 hk).1; simpa [coL] using this
  generalize n + k = m at *
  rcases (show m = 0 ∨ m = 1 ∨ m = 2 ∨ m = 3 ∨ m = 4 ∨ m = 5 by omega) with rfl | rfl | rfl | rfl | rfl | rfl <;> simp [coL] at hk <;> subst hk <;> assumption
end Go.Proofs.YtkeflpcokcfcjaaDoor
