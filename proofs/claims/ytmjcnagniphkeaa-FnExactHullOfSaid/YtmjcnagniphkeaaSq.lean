/- Slices of spans in the laws: conversion, size, equality. Written by gen_sq.py out of XOb. -/
import Derived.Test.YtmjcnagniphkeaaSn
import Derived.Test.YtmjcnagniphkeaaQ
import Derived.Test.YtmjcnagniphkeaaB1
namespace Go.Proofs.Ytmjcnagniphkeaa
open Go.RowKit Go.Sort

set_option maxRecDepth 20000 in
set_option maxHeartbeats 2000000 in
theorem toSpanS_some (ad : Addr) (cap : Nat) (xs : List Spv) (w : World) (hn : xs.length ≤ 1048576) (hr : ∀ (k : Nat) (x : Spv), xs[k]? = some x → CelN w (ad.add (k * 4)) x) :
    Calls Try.prog 25 #[.slice (some ad) xs.length cap] w fun e w' => e = .returned (.slice (some ⟨w.heap.size, 0, none⟩) xs.length xs.length) ∧ w'.heap[w.heap.size]? = some (.cells (rowN xs []) 36) ∧ Gr w w' := by
  have HR := hid hr; clear hr
  have hmk := makeN xs.length hn
  go_enter Try.func25, Try.ntmps25
  go_wp2_with fail
  go_loopw [4] (fun u wr => ∃ (k : Nat), u = .int .i64 (k : Int) ∧ k ≤ xs.length ∧ Gr w wr ∧ wr.heap[w.heap.size]? = some (.cells (rowN (xs.take k ++ List.replicate (xs.length - k) zN) []) 36)) (fun u _ => xs.length - (intOf u).toNat)
  case atStart => exact ⟨0, rfl, by omega, (Gr.refl _).al _, by simpa using (alloc1 (Gr.refl (w.alloc (.cells (rowN (List.replicate xs.length zN) []) 36)))).1⟩
  case round =>
    obtain ⟨k, rfl, hk, g, x0⟩ := hrel
    clear hmk
    by_cases hlt : k < xs.length
    · obtain ⟨x, hx⟩ : ∃ x, xs[k]? = some x := ⟨xs[k], List.getElem?_eq_getElem _⟩
      have hz := ltb x0
      have GW := hid g; have X0 := hid x0
      obtain ⟨_, _, _, _⟩ := (HR.out k x hx).keep g
      have HP := hid hx
      clear g x0 hx
      go_wp2_with fail
      refine (toSpan_any x.a x.b x.c x.d _).mono ?_
      rintro e w1 ⟨rfl, hg1⟩
      have G1 := hid (GW.out.trans hg1)
      have x1 := hg1.keep X0.out
      have _ := ltb x1
      have f1 := fz x1
      obtain ⟨_, _, _, _⟩ := (celN_of x1 (takeN_get hlt)).blk
      have X1 := hid x1
      have HL := hid (takeN_len hlt)
      clear hg1 x1 X0 GW
      go_wp2_with fail
      refine ⟨⟨k + 1, by simp, by omega, ((((G1.out).setCell (by simp <;> omega) _).setCell (by simp <;> omega) _).setCell (by simp <;> omega) _).setCell (by simp <;> omega) _, ?_⟩, by simp [intOf]; omega⟩
      have h := storeN (k := k) x X1.out (by rw [HL.out]; exact hlt)
      rw [takeN_step HP.out] at h
      exact h
    · have hke : k = xs.length := by omega
      have GW := hid g; have X0 := hid x0
      clear g x0
      go_wp2_with fail
      go_ret
      refine ⟨rfl, ?_, GW.out⟩
      have h := X0.out
      rw [hke] at h
      simpa using h
set_option maxRecDepth 20000 in
set_option maxHeartbeats 1000000 in
theorem toSpanS_none (w : World) :
    Calls Try.prog 25 #[.slice none 0 0] w fun e w' => e = .returned (.slice (some ⟨w.heap.size, 0, none⟩) 0 0) ∧ w'.heap[w.heap.size]? = some (.cells (rowN [] []) 36) ∧ Gr w w' := by
  have hmk : ∀ w : World, (Instr.makeSlice 39 (.int .i64 0) (.int .i64 0)).run Try.prog w = .ok (.slice (some ⟨w.heap.size, 0, none⟩) 0 0) (w.alloc (.cells (rowN [] []) 36)) := fun w => makeN 0 (by omega) w
  go_enter Try.func25, Try.ntmps25
  go_wp2_with fail
  go_loopw [4] (fun u wr => u = .int .i64 0 ∧ Gr w wr ∧ wr.heap[w.heap.size]? = some (.cells (rowN [] []) 36)) (fun _ _ => 0)
  case atStart => exact ⟨rfl, (Gr.refl _).al _, (alloc1 (Gr.refl _)).1⟩
  case round =>
    obtain ⟨rfl, g, x0⟩ := hrel
    have GW := hid g; have X0 := hid x0
    clear g x0
    go_wp2_with fail
    go_ret
    exact ⟨rfl, X0.out, GW.out⟩
theorem toSpanS_any (v : Value) (xs : List Spv) (w : World) (hn : xs.length ≤ 1048576) (h : RawN w v xs) :
    Calls Try.prog 25 #[v] w fun e w' => e = .returned (.slice (some ⟨w.heap.size, 0, none⟩) xs.length xs.length) ∧ w'.heap[w.heap.size]? = some (.cells (rowN xs []) 36) ∧ Gr w w' := by
  rcases h with ⟨rfl, rfl⟩ | ⟨ad, cap, rfl, hr⟩
  · exact toSpanS_none w
  · exact toSpanS_some ad cap xs w hn hr
theorem szN (A : Option Addr) (n c : Nat) (l : Int) (w : World) (h : n ≤ 9223372036854775807) (l0 : 0 ≤ l) (l1 : l ≤ 1048576) :
    Calls Try.prog 23 #[.slice A n c, .int .i64 l] w fun e w' => e = .returned (.int .i64 (if (n : Int) ≤ l then l - (n : Int) else -1)) ∧ Gr w w' := by
  by_cases h1 : (n : Int) ≤ l
  · rw [if_pos h1]
    go_enter Try.func23, Try.ntmps23
    go_wp2
    go_ret
    exact ⟨rfl, Gr.refl _⟩
  · rw [if_neg h1]
    go_enter Try.func23, Try.ntmps23
    go_wp2
    go_ret
    exact ⟨rfl, Gr.refl _⟩
set_option maxRecDepth 20000 in
set_option maxHeartbeats 1000000 in
theorem eqN_any (A A' : Option Addr) (c c' : Nat) (xs : List Spv) (w : World) (X1 : Hid (RdN w A xs)) (X2 : Hid (RdN w A' xs)) (hn : xs.length ≤ 1048576) :
    Calls Try.prog 28 #[.slice A xs.length c, .slice A' xs.length c'] w fun e w' => e = .returned (.bool true) ∧ Gr w w' := by
  go_enter Try.func28, Try.ntmps28
  go_wp2_with fail
  go_loopw [5] (fun u wr => ∃ (k : Nat), u = .int .i64 (k : Int) ∧ k ≤ xs.length ∧ Gr w wr) (fun u _ => xs.length - (intOf u).toNat)
  case atStart => exact ⟨0, rfl, by omega, Gr.refl _⟩
  case round =>
    obtain ⟨k, rfl, hk, g0⟩ := hrel
    by_cases hlt : k < xs.length
    · obtain ⟨x, hx⟩ : ∃ x, xs[k]? = some x := ⟨xs[k], List.getElem?_eq_getElem _⟩
      obtain ⟨ad, rfl, c1⟩ := (X1.out.keep g0) k x hx
      obtain ⟨ad', rfl, c2⟩ := (X2.out.keep g0) k x hx
      have GW := hid g0; have C1 := hid c1; have C2 := hid c2; clear g0 hx c1 c2
      go_wp2_with fail
      refine wp_reg0 9 (by kernel_rfl) (by kernel_rfl) ?_
      apply Exists.intro
      refine ⟨fun wb hb => ?_, ?_⟩
      · have _ := hb.atF C1.out.h0; have _ := hb.atF C1.out.h1; have _ := hb.atF C1.out.h2; have _ := hb.atF C1.out.h3; have _ := hb.atF C2.out.h0; have _ := hb.atF C2.out.h1; have _ := hb.atF C2.out.h2; have _ := hb.atF C2.out.h3
        simp only [headOps, List.contains, List.elem, reduceIte, Bool.false_eq_true]
        repeat (first | go_big_quiet_step (first | (go_at_call 27; exact Calls.of_gr (eqSpan_any x.a x.b x.c x.d _))) | quiet_step (fail))
        exact wpQuiet_nil rfl
      intro w1 hg1
      have G1 := hid (GW.out.trans hg1)
      clear hg1
      go_wp2_with fail
      exact ⟨⟨k + 1, by simp, by omega, G1.out⟩, by simp [intOf]; omega⟩
    · go_wp2_with fail
      go_ret
      exact ⟨rfl, g0⟩
end Go.Proofs.Ytmjcnagniphkeaa
