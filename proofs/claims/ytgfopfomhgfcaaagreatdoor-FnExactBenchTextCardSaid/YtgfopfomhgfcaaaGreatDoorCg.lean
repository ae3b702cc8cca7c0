/- Slices of things in the laws: conversion, size, equality. Written by gen_ch.py out of XSq. -/
import Derived.Test.YtgfopfomhgfcaaaGreatDoorTg
import Derived.Test.YtgfopfomhgfcaaaGreatDoorN
import Derived.Test.YtgfopfomhgfcaaaGreatDoorB1
namespace Go.Proofs.YtgfopfomhgfcaaaGreatDoor
open Go.RowKit Go.Sort

set_option maxRecDepth 20000 in
set_option maxHeartbeats 2000000 in
theorem toThing_any (x : Tgv) (w : World) : Calls Tryz.prog 76 #[vTg x] w fun e w' => e = .returned (vTg x) ∧ Gr w w' := by
  go_enter Tryz.func76, Tryz.ntmps76
  go_wp2
  refine bodyPost_ret (v := vTg x) (by simp [results, Tryz.results76, go_sem, *]) rfl ⟨rfl, ?_⟩
  repeat (first | exact Gr.refl _ | refine Gr.al ?_ _ | refine Gr.setCell ?_ (by simp <;> omega) _)
set_option maxRecDepth 20000 in
set_option maxHeartbeats 1000000 in
theorem eqThing_any (x : Tgv) (w : World) : Calls Tryz.prog 87 #[vTg x, vTg x] w fun e w' => e = .returned (.bool true) ∧ Gr w w' := by
  go_enter Tryz.func87, Tryz.ntmps87
  go_wp2
  go_ret
  refine ⟨rfl, ?_⟩
  repeat (first | exact Gr.refl _ | refine Gr.al ?_ _ | refine Gr.setCell ?_ (by simp <;> omega) _)
/-- What is left behind the names. -/
def szSumT : List Tgv → Int → Int
  | [], l => l
  | x :: r, l => if (x.nm.size : Int) ≤ l then szSumT r (l - x.nm.size) else -1
theorem szSumT_le : ∀ (xs : List Tgv) (l : Int), 0 ≤ l → -1 ≤ szSumT xs l ∧ szSumT xs l ≤ l
  | [], l, h => ⟨by unfold szSumT; omega, by unfold szSumT; omega⟩
  | x :: r, l, h => by
    unfold szSumT
    split
    · have := szSumT_le r (l - x.nm.size) (by omega)
      omega
    · omega
set_option maxRecDepth 20000 in
set_option maxHeartbeats 1000000 in
theorem szTng (x : Tgv) (l : Int) (w : World) (h0 : 0 ≤ l) (h1 : l ≤ 1048576) (hs : x.nm.size ≤ 9223372036854775807) :
    Calls Tryz.prog 67 #[vTg x, .int .i64 l] w fun e w' => e = .returned (.int .i64 (if (x.nm.size : Int) ≤ l then l - x.nm.size else -1)) ∧ Gr w w' := by
  by_cases h : (x.nm.size : Int) ≤ l
  · rw [if_pos h]
    go_enter Tryz.func67, Tryz.ntmps67
    go_wp2
    go_ret
    exact ⟨rfl, (Gr.refl _).al _⟩
  · rw [if_neg h]
    go_enter Tryz.func67, Tryz.ntmps67
    go_wp2
    go_ret
    exact ⟨rfl, (Gr.refl _).al _⟩
theorem szTg_no (A : Option Addr) (n c : Nat) (l : Int) (w : World) (h : n ≤ 9223372036854775807) (l0 : 0 ≤ l) (l1 : l ≤ 1048576) (h1 : ¬ (n : Int) ≤ l) :
    Calls Tryz.prog 27 #[.slice A n c, .int .i64 l] w fun e w' => e = .returned (.int .i64 (-1)) ∧ Gr w w' := by
  go_enter Tryz.func27, Tryz.ntmps27
  go_wp2_with fail
  go_ret
  exact ⟨rfl, Gr.refl _⟩
set_option maxRecDepth 20000 in
set_option maxHeartbeats 1000000 in
theorem szTg_some (ad : Addr) (c : Nat) (xs : List Tgv) (l : Int) (w : World) (hr : ∀ (k : Nat) (x : Tgv), xs[k]? = some x → CelTg w (ad.add (k * 5)) x) (hs : ∀ x ∈ xs, x.nm.size ≤ 9223372036854775807) (l0 : 0 ≤ l) (l1 : l ≤ 1048576) (h1 : (xs.length : Int) ≤ l) :
    Calls Tryz.prog 27 #[.slice (some ad) xs.length c, .int .i64 l] w fun e w' => e = .returned (.int .i64 (szSumT xs (l - xs.length))) ∧ Gr w w' := by
  have HR := hid hr; have HS := hid hs
  obtain ⟨R, hR⟩ : ∃ R, szSumT xs (l - xs.length) = R := ⟨_, rfl⟩
  rw [hR]
  have HRR := hid hR
  clear hr hs hR
  go_enter Tryz.func27, Tryz.ntmps27
  go_wp2_with fail
  go_loopw [1, 5] (fun v u wr => ∃ (k : Nat) (q : Int), u = .int .i64 (k : Int) ∧ v = .int .i64 q ∧ 0 ≤ q ∧ q ≤ 1048576 ∧ k ≤ xs.length ∧ szSumT (xs.drop k) q = R ∧ Gr w wr) (fun _ u _ => xs.length - (intOf u).toNat)
  case atStart => exact ⟨0, _, rfl, rfl, by omega, by omega, by omega, HRR.out, Gr.refl _⟩
  case round =>
    obtain ⟨k, q, rfl, rfl, q0, q1, hk, hq, hg⟩ := hrel
    have GW := hid hg; have HQ := hid hq
    clear hq
    by_cases hlt : k < xs.length
    · obtain ⟨x, hx⟩ : ∃ x, xs[k]? = some x := ⟨xs[k], List.getElem?_eq_getElem _⟩
      have hsx := HS.out x (List.mem_of_getElem? hx)
      have hd : xs.drop k = x :: xs.drop (k + 1) := by
        rw [List.drop_eq_getElem_cons hlt]
        congr 1
        rw [List.getElem?_eq_getElem hlt] at hx
        exact Option.some.inj hx
      have hq2 := HQ.out
      rw [hd] at hq2
      obtain ⟨_, _, _, _, _⟩ := (HR.out k x hx).keep hg
      clear hd hx hg
      by_cases hle : (x.nm.size : Int) ≤ q
      · have hz := fun w => szTng x q w q0 q1 hsx
        rw [if_pos hle] at hz
        have HZ := hid hz
        have hq3 : szSumT (xs.drop (k + 1)) (q - x.nm.size) = R := by rw [← hq2]; show _ = szSumT (x :: xs.drop (k + 1)) q; rw [szSumT, if_pos hle]
        have HQ3 := hid hq3
        clear hz hq2 hq3
        go_wp2_with fail
        refine (HZ.out _).mono ?_
        rintro e w1 ⟨rfl, hg1⟩
        have G1 := hid (GW.out.trans hg1)
        clear hg1
        go_wp2_with fail
        exact ⟨⟨k + 1, _, by simp, rfl, by omega, by omega, by omega, HQ3.out, G1.out⟩, by simp [intOf]; omega⟩
      · have hz := fun w => szTng x q w q0 q1 hsx
        rw [if_neg hle] at hz
        have HZ := hid hz
        have hq3 : R = -1 := by rw [← hq2]; show szSumT (x :: xs.drop (k + 1)) q = _; rw [szSumT, if_neg hle]
        clear hz hq2
        subst hq3
        go_wp2_with fail
        refine (HZ.out _).mono ?_
        rintro e w1 ⟨rfl, hg1⟩
        have G1 := hid (GW.out.trans hg1)
        clear hg1
        go_wp2_with fail
        go_ret
        exact ⟨rfl, G1.out⟩
    · have hd : xs.drop k = [] := List.drop_eq_nil_of_le (by omega)
      have hq2 := HQ.out
      rw [hd, szSumT] at hq2
      subst hq2
      clear hd hg
      go_wp2_with fail
      go_ret
      exact ⟨rfl, GW.out⟩
theorem szTg_any (v : Value) (A : Option Addr) (c : Nat) (xs : List Tgv) (l : Int) (w : World) (hv : v = .slice A xs.length c) (hr : RawTg w v xs) (hm : xs.length ≤ 9223372036854775807) (hs : ∀ x ∈ xs, x.nm.size ≤ 9223372036854775807) (l0 : 0 ≤ l) (l1 : l ≤ 1048576) :
    Calls Tryz.prog 27 #[v, .int .i64 l] w fun e w' => e = .returned (.int .i64 (if (xs.length : Int) ≤ l then szSumT xs (l - xs.length) else -1)) ∧ Gr w w' := by
  subst hv
  by_cases h1 : (xs.length : Int) ≤ l
  · rw [if_pos h1]
    rcases hr with ⟨he, rfl⟩ | ⟨ad, cap, he, hr⟩
    · injection he with e1 e2 e3
      subst e1 e3
      go_enter Tryz.func27, Tryz.ntmps27
      go_wp2_with fail
      go_loopw [1, 5] (fun v u wr => u = .int .i64 0 ∧ v = .int .i64 l ∧ Gr w wr) (fun _ _ _ => 0)
      case atStart => exact ⟨rfl, rfl, Gr.refl _⟩
      case round =>
        obtain ⟨rfl, rfl, g⟩ := hrel
        have GW := hid g
        clear g
        go_wp2_with fail
        go_ret
        exact ⟨ret_int (by simp only [szSumT]; omega), GW.out⟩
    · injection he with e1 e2 e3
      subst e1
      exact szTg_some ad c xs l w hr hs l0 l1 h1
  · rw [if_neg h1]
    exact szTg_no A xs.length c l w hm l0 l1 h1
/-- What is left of the size that the laws allow. -/
def szToT (xs : List Tgv) (l : Int) : Int := if (xs.length : Int) ≤ l then szSumT xs (l - xs.length) else -1
theorem szToT_bd (xs : List Tgv) (l q : Int) (h : 0 ≤ l) (hq : szToT xs l = q) : -1 ≤ q ∧ q ≤ l ∧ (0 ≤ q → (xs.length : Int) ≤ l) := by
  unfold szToT at hq
  split at hq
  · have := szSumT_le xs (l - xs.length) (by omega)
    omega
  · omega
theorem szTg_is (v : Value) (A : Option Addr) (c : Nat) (xs : List Tgv) (l q : Int) (w : World) (hv : v = .slice A xs.length c) (hr : RawTg w v xs) (hm : xs.length ≤ 9223372036854775807) (hs : ∀ x ∈ xs, x.nm.size ≤ 9223372036854775807) (l0 : 0 ≤ l) (l1 : l ≤ 1048576) (hq : szToT xs l = q) :
    Calls Tryz.prog 27 #[v, .int .i64 l] w fun e w' => e = .returned (.int .i64 q) ∧ Gr w w' := by
  rw [← hq]
  exact szTg_any v A c xs l w hv hr hm hs l0 l1
set_option maxRecDepth 20000 in
set_option maxHeartbeats 2000000 in
theorem toThingS_some (ad : Addr) (cap : Nat) (xs : List Tgv) (w : World) (hn : xs.length ≤ 1048576) (hr : ∀ (k : Nat) (x : Tgv), xs[k]? = some x → CelTg w (ad.add (k * 5)) x) :
    Calls Tryz.prog 33 #[.slice (some ad) xs.length cap] w fun e w' => e = .returned (.slice (some ⟨w.heap.size, 0, none⟩) xs.length xs.length) ∧ w'.heap[w.heap.size]? = some (.cells (rowTg xs []) 76) ∧ Gr w w' := by
  have HR := hid hr; clear hr
  have hmk := makeTg xs.length hn
  go_enter Tryz.func33, Tryz.ntmps33
  go_wp2_with fail
  go_loopw [4] (fun u wr => ∃ (k : Nat), u = .int .i64 (k : Int) ∧ k ≤ xs.length ∧ Gr w wr ∧ wr.heap[w.heap.size]? = some (.cells (rowTg (xs.take k ++ List.replicate (xs.length - k) zTg) []) 76)) (fun u _ => xs.length - (intOf u).toNat)
  case atStart => exact ⟨0, rfl, by omega, (Gr.refl _).al _, by simpa using (alloc1 (Gr.refl (w.alloc (.cells (rowTg (List.replicate xs.length zTg) []) 76)))).1⟩
  case round =>
    obtain ⟨k, rfl, hk, g, x0⟩ := hrel
    clear hmk
    by_cases hlt : k < xs.length
    · obtain ⟨x, hx⟩ : ∃ x, xs[k]? = some x := ⟨xs[k], List.getElem?_eq_getElem _⟩
      have hz := ltb x0
      have GW := hid g; have X0 := hid x0
      obtain ⟨_, _, _, _, _⟩ := (HR.out k x hx).keep g
      have HP := hid hx
      clear g x0 hx
      go_wp2_with fail
      refine (toThing_any x _).mono ?_
      rintro e w1 ⟨rfl, hg1⟩
      have G1 := hid (GW.out.trans hg1)
      have x1 := hg1.keep X0.out
      have _ := ltb x1
      have f1 := fz x1
      obtain ⟨_, _, _, _, _⟩ := (celTg_of x1 (takeTg_get hlt)).blk
      have X1 := hid x1
      have HL := hid (takeTg_len hlt)
      clear hg1 x1 X0 GW
      go_wp2_with fail
      refine ⟨⟨k + 1, by simp, by omega, (((((G1.out).setCell (by simp <;> omega) _).setCell (by simp <;> omega) _).setCell (by simp <;> omega) _).setCell (by simp <;> omega) _).setCell (by simp <;> omega) _, ?_⟩, by simp [intOf]; omega⟩
      have h := storeTg (k := k) x X1.out (by rw [HL.out]; exact hlt)
      rw [takeTg_step HP.out] at h
      exact h
    · have hke : k = xs.length := by omega
      have GW := hid g; have X0 := hid x0
      clear g x0
      go_wp2_with fail
      go_ret
      refine ⟨rfl, ?_, GW.out⟩
      have h := X0.out
      rw [hke] at h
      simpa using h
set_option maxRecDepth 20000 in
set_option maxHeartbeats 1000000 in
theorem toThingS_none (w : World) :
    Calls Tryz.prog 33 #[.slice none 0 0] w fun e w' => e = .returned (.slice (some ⟨w.heap.size, 0, none⟩) 0 0) ∧ w'.heap[w.heap.size]? = some (.cells (rowTg [] []) 76) ∧ Gr w w' := by
  have hmk : ∀ w : World, (Instr.makeSlice 39 (.int .i64 0) (.int .i64 0)).run Tryz.prog w = .ok (.slice (some ⟨w.heap.size, 0, none⟩) 0 0) (w.alloc (.cells (rowTg [] []) 76)) := fun w => makeTg 0 (by omega) w
  go_enter Tryz.func33, Tryz.ntmps33
  go_wp2_with fail
  go_loopw [4] (fun u wr => u = .int .i64 0 ∧ Gr w wr ∧ wr.heap[w.heap.size]? = some (.cells (rowTg [] []) 76)) (fun _ _ => 0)
  case atStart => exact ⟨rfl, (Gr.refl _).al _, (alloc1 (Gr.refl _)).1⟩
  case round =>
    obtain ⟨rfl, g, x0⟩ := hrel
    have GW := hid g; have X0 := hid x0
    clear g x0
    go_wp2_with fail
    go_ret
    exact ⟨rfl, X0.out, GW.out⟩
theorem toThingS_any (v : Value) (xs : List Tgv) (w : World) (hn : xs.length ≤ 1048576) (h : RawTg w v xs) :
    Calls Tryz.prog 33 #[v] w fun e w' => e = .returned (.slice (some ⟨w.heap.size, 0, none⟩) xs.length xs.length) ∧ w'.heap[w.heap.size]? = some (.cells (rowTg xs []) 76) ∧ Gr w w' := by
  rcases h with ⟨rfl, rfl⟩ | ⟨ad, cap, rfl, hr⟩
  · exact toThingS_none w
  · exact toThingS_some ad cap xs w hn hr
set_option maxRecDepth 20000 in
set_option maxHeartbeats 1000000 in
theorem eqTg_any (A A' : Option Addr) (c c' : Nat) (xs : List Tgv) (w : World) (X1 : Hid (RdTg w A xs)) (X2 : Hid (RdTg w A' xs)) (hn : xs.length ≤ 1048576) :
    Calls Tryz.prog 42 #[.slice A xs.length c, .slice A' xs.length c'] w fun e w' => e = .returned (.bool true) ∧ Gr w w' := by
  go_enter Tryz.func42, Tryz.ntmps42
  go_wp2_with fail
  go_loopw [5] (fun u wr => ∃ (k : Nat), u = .int .i64 (k : Int) ∧ k ≤ xs.length ∧ Gr w wr) (fun u _ => xs.length - (intOf u).toNat)
  case atStart => exact ⟨0, rfl, by omega, Gr.refl _⟩
  case round =>
    obtain ⟨k, rfl, hk, g0⟩ := hrel
    by_cases hlt : k < xs.length
    · obtain ⟨x, hx⟩ : ∃ x, xs[k]? = some x := ⟨xs[k], List.getElem?_eq_getElem _⟩
      obtain ⟨ad, rfl, c1⟩ := (X1.out.keep g0) k x hx
      obtain ⟨ad', rfl, c2⟩ := (X2.out.keep g0) k x hx
      have GW := hid g0; have C1 := hid c1; have C2 := hid c2; clear g0 hx c1 c2
      go_wp2_with fail
      refine wp_reg0 9 (by kernel_rfl) (by kernel_rfl) ?_
      apply Exists.intro
      refine ⟨fun wb hb => ?_, ?_⟩
      · have _ := hb.atF C1.out.h0; have _ := hb.atF C1.out.h1; have _ := hb.atF C1.out.h2; have _ := hb.atF C1.out.h3; have _ := hb.atF C1.out.h4; have _ := hb.atF C2.out.h0; have _ := hb.atF C2.out.h1; have _ := hb.atF C2.out.h2; have _ := hb.atF C2.out.h3; have _ := hb.atF C2.out.h4
        simp only [headOps, List.contains, List.elem, reduceIte, Bool.false_eq_true]
        repeat (first | go_big_quiet_step (first | (go_at_call 87; exact Calls.of_gr (eqThing_any x _))) | quiet_step (fail))
        exact wpQuiet_nil rfl
      intro w1 hg1
      have G1 := hid (GW.out.trans hg1)
      clear hg1
      go_wp2_with fail
      exact ⟨⟨k + 1, by simp, by omega, G1.out⟩, by simp [intOf]; omega⟩
    · go_wp2_with fail
      go_ret
      exact ⟨rfl, g0⟩
end Go.Proofs.YtgfopfomhgfcaaaGreatDoor
