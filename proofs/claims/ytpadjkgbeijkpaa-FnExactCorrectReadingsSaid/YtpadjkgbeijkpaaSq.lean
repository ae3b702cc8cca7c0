/- Slices of spans in the laws: conversion, size, equality. Written by gen_sq.py out of XOb. -/
import Derived.Test.YtpadjkgbeijkpaaSn
import Derived.Test.YtpadjkgbeijkpaaN
import Derived.Test.YtpadjkgbeijkpaaB1
namespace Go.Proofs.Ytpadjkgbeijkpaa
open Go.RowKit Go.Sort

set_option maxRecDepth 20000 in
set_option maxHeartbeats 1000000 in
theorem eqN_any (A A' : Option Addr) (c c' : Nat) (xs : List Spv) (w : World) (X1 : Hid (RdN w A xs)) (X2 : Hid (RdN w A' xs)) (hn : xs.length ≤ 1048576) :
    Calls Try.prog 35 #[.slice A xs.length c, .slice A' xs.length c'] w fun e w' => e = .returned (.bool true) ∧ Gr w w' := by
  go_enter Try.func35, Try.ntmps35
  go_wp2_with fail
  go_loopw [5] (fun u wr => ∃ (k : Nat), u = .int .i64 (k : Int) ∧ k ≤ xs.length ∧ Gr w wr) (fun u _ => xs.length - (intOf u).toNat)
  case atStart => exact ⟨0, rfl, by omega, Gr.refl _⟩
  case round =>
    obtain ⟨k, rfl, hk, g0⟩ := hrel
    by_cases hlt : k < xs.length
    · obtain ⟨x, hx⟩ : ∃ x, xs[k]? = some x := ⟨xs[k], List.getElem?_eq_getElem _⟩
      obtain ⟨ad, rfl, c1⟩ := (X1.out.keep g0) k x hx
      obtain ⟨ad', rfl, c2⟩ := (X2.out.keep g0) k x hx
      have GW := hid g0; have C1 := hid c1; have C2 := hid c2; clear g0 hx c1 c2
      go_wp2_with fail
      refine wp_reg0 9 (by kernel_rfl) (by kernel_rfl) ?_
      apply Exists.intro
      refine ⟨fun wb hb => ?_, ?_⟩
      · have _ := hb.atF C1.out.h0; have _ := hb.atF C1.out.h1; have _ := hb.atF C1.out.h2; have _ := hb.atF C1.out.h3; have _ := hb.atF C2.out.h0; have _ := hb.atF C2.out.h1; have _ := hb.atF C2.out.h2; have _ := hb.atF C2.out.h3
        simp only [headOps, List.contains, List.elem, reduceIte, Bool.false_eq_true]
        repeat (first | go_big_quiet_step (first | (go_at_call 73; exact Calls.of_gr (eqSpan_any x.a x.b x.c x.d _))) | quiet_step (fail))
        exact wpQuiet_nil rfl
      intro w1 hg1
      have G1 := hid (GW.out.trans hg1)
      clear hg1
      go_wp2_with fail
      exact ⟨⟨k + 1, by simp, by omega, G1.out⟩, by simp [intOf]; omega⟩
    · go_wp2_with fail
      go_ret
      exact ⟨rfl, g0⟩
end Go.Proofs.Ytpadjkgbeijkpaa
