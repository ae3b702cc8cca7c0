/- Slices of standards in the laws: conversion, size, equality. Written by gen_ch.py out of XSq. -/
import Derived.Test.YtadpoocafhddeaaDoorSd
import Derived.Test.YtadpoocafhddeaaDoorN
import Derived.Test.YtadpoocafhddeaaDoorB1
namespace Go.Proofs.YtadpoocafhddeaaDoor
open Go.RowKit Go.Sort

set_option maxRecDepth 20000 in
set_option maxHeartbeats 2000000 in
theorem toStandard_any (x : Sdv) (w : World) : Calls Tryd.prog 33 #[vSd x] w fun e w' => e = .returned (vSd x) ∧ Gr w w' := by
  go_enter Tryd.func33, Tryd.ntmps33
  go_wp2
  refine bodyPost_ret (v := vSd x) (by simp [results, Tryd.results33, go_sem, *]) rfl ⟨rfl, ?_⟩
  repeat (first | exact Gr.refl _ | refine Gr.al ?_ _ | refine Gr.setCell ?_ (by simp <;> omega) _)
set_option maxRecDepth 20000 in
set_option maxHeartbeats 1000000 in
theorem eqStandard_any (x : Sdv) (w : World) : Calls Tryd.prog 36 #[vSd x, vSd x] w fun e w' => e = .returned (.bool true) ∧ Gr w w' := by
  go_enter Tryd.func36, Tryd.ntmps36
  go_wp2
  go_ret
  refine ⟨rfl, ?_⟩
  repeat (first | exact Gr.refl _ | refine Gr.al ?_ _ | refine Gr.setCell ?_ (by simp <;> omega) _)
/-- What is left behind the names. -/
def szSum : List Sdv → Int → Int
  | [], l => l
  | x :: r, l => if (x.nm.size : Int) ≤ l then szSum r (l - x.nm.size) else -1
theorem szSum_le : ∀ (xs : List Sdv) (l : Int), 0 ≤ l → -1 ≤ szSum xs l ∧ szSum xs l ≤ l
  | [], l, h => ⟨by unfold szSum; omega, by unfold szSum; omega⟩
  | x :: r, l, h => by
    unfold szSum
    split
    · have := szSum_le r (l - x.nm.size) (by omega)
      omega
    · omega
set_option maxRecDepth 20000 in
set_option maxHeartbeats 1000000 in
theorem szStd (x : Sdv) (l : Int) (w : World) (h0 : 0 ≤ l) (h1 : l ≤ 1048576) (hs : x.nm.size ≤ 9223372036854775807) :
    Calls Tryd.prog 31 #[vSd x, .int .i64 l] w fun e w' => e = .returned (.int .i64 (if (x.nm.size : Int) ≤ l then l - x.nm.size else -1)) ∧ Gr w w' := by
  by_cases h : (x.nm.size : Int) ≤ l
  · rw [if_pos h]
    go_enter Tryd.func31, Tryd.ntmps31
    go_wp2
    go_ret
    exact ⟨rfl, (Gr.refl _).al _⟩
  · rw [if_neg h]
    go_enter Tryd.func31, Tryd.ntmps31
    go_wp2
    go_ret
    exact ⟨rfl, (Gr.refl _).al _⟩
theorem szSd_no (A : Option Addr) (n c : Nat) (l : Int) (w : World) (h : n ≤ 9223372036854775807) (l0 : 0 ≤ l) (l1 : l ≤ 1048576) (h1 : ¬ (n : Int) ≤ l) :
    Calls Tryd.prog 10 #[.slice A n c, .int .i64 l] w fun e w' => e = .returned (.int .i64 (-1)) ∧ Gr w w' := by
  go_enter Tryd.func10, Tryd.ntmps10
  go_wp2_with fail
  go_ret
  exact ⟨rfl, Gr.refl _⟩
set_option maxRecDepth 20000 in
set_option maxHeartbeats 1000000 in
theorem szSd_some (ad : Addr) (c : Nat) (xs : List Sdv) (l : Int) (w : World) (hr : ∀ (k : Nat) (x : Sdv), xs[k]? = some x → CelSd w (ad.add (k * 10)) x) (hs : ∀ x ∈ xs, x.nm.size ≤ 9223372036854775807) (l0 : 0 ≤ l) (l1 : l ≤ 1048576) (h1 : (xs.length : Int) ≤ l) :
    Calls Tryd.prog 10 #[.slice (some ad) xs.length c, .int .i64 l] w fun e w' => e = .returned (.int .i64 (szSum xs (l - xs.length))) ∧ Gr w w' := by
  have HR := hid hr; have HS := hid hs
  obtain ⟨R, hR⟩ : ∃ R, szSum xs (l - xs.length) = R := ⟨_, rfl⟩
  rw [hR]
  have HRR := hid hR
  clear hr hs hR
  go_enter Tryd.func10, Tryd.ntmps10
  go_wp2_with fail
  go_loopw [1, 5] (fun v u wr => ∃ (k : Nat) (q : Int), u = .int .i64 (k : Int) ∧ v = .int .i64 q ∧ 0 ≤ q ∧ q ≤ 1048576 ∧ k ≤ xs.length ∧ szSum (xs.drop k) q = R ∧ Gr w wr) (fun _ u _ => xs.length - (intOf u).toNat)
  case atStart => exact ⟨0, _, rfl, rfl, by omega, by omega, by omega, HRR.out, Gr.refl _⟩
  case round =>
    obtain ⟨k, q, rfl, rfl, q0, q1, hk, hq, hg⟩ := hrel
    have GW := hid hg; have HQ := hid hq
    clear hq
    by_cases hlt : k < xs.length
    · obtain ⟨x, hx⟩ : ∃ x, xs[k]? = some x := ⟨xs[k], List.getElem?_eq_getElem _⟩
      have hsx := HS.out x (List.mem_of_getElem? hx)
      have hd : xs.drop k = x :: xs.drop (k + 1) := by
        rw [List.drop_eq_getElem_cons hlt]
        congr 1
        rw [List.getElem?_eq_getElem hlt] at hx
        exact Option.some.inj hx
      have hq2 := HQ.out
      rw [hd] at hq2
      obtain ⟨_, _, _, _, _, _, _, _, _, _⟩ := (HR.out k x hx).keep hg
      clear hd hx hg
      by_cases hle : (x.nm.size : Int) ≤ q
      · have hz := fun w => szStd x q w q0 q1 hsx
        rw [if_pos hle] at hz
        have HZ := hid hz
        have hq3 : szSum (xs.drop (k + 1)) (q - x.nm.size) = R := by rw [← hq2]; show _ = szSum (x :: xs.drop (k + 1)) q; rw [szSum, if_pos hle]
        have HQ3 := hid hq3
        clear hz hq2 hq3
        go_wp2_with fail
        refine (HZ.out _).mono ?_
        rintro e w1 ⟨rfl, hg1⟩
        have G1 := hid (GW.out.trans hg1)
        clear hg1
        go_wp2_with fail
        exact ⟨⟨k + 1, _, by simp, rfl, by omega, by omega, by omega, HQ3.out, G1.out⟩, by simp [intOf]; omega⟩
      · have hz := fun w => szStd x q w q0 q1 hsx
        rw [if_neg hle] at hz
        have HZ := hid hz
        have hq3 : R = -1 := by rw [← hq2]; show szSum (x :: xs.drop (k + 1)) q = _; rw [szSum, if_neg hle]
        clear hz hq2
        subst hq3
        go_wp2_with fail
        refine (HZ.out _).mono ?_
        rintro e w1 ⟨rfl, hg1⟩
        have G1 := hid (GW.out.trans hg1)
        clear hg1
        go_wp2_with fail
        go_ret
        exact ⟨rfl, G1.out⟩
    · have hd : xs.drop k = [] := List.drop_eq_nil_of_le (by omega)
      have hq2 := HQ.out
      rw [hd, szSum] at hq2
      subst hq2
      clear hd hg
      go_wp2_with fail
      go_ret
      exact ⟨rfl, GW.out⟩
theorem szSd_any (v : Value) (A : Option Addr) (c : Nat) (xs : List Sdv) (l : Int) (w : World) (hv : v = .slice A xs.length c) (hr : RawSd w v xs) (hm : xs.length ≤ 9223372036854775807) (hs : ∀ x ∈ xs, x.nm.size ≤ 9223372036854775807) (l0 : 0 ≤ l) (l1 : l ≤ 1048576) :
    Calls Tryd.prog 10 #[v, .int .i64 l] w fun e w' => e = .returned (.int .i64 (if (xs.length : Int) ≤ l then szSum xs (l - xs.length) else -1)) ∧ Gr w w' := by
  subst hv
  by_cases h1 : (xs.length : Int) ≤ l
  · rw [if_pos h1]
    rcases hr with ⟨he, rfl⟩ | ⟨ad, cap, he, hr⟩
    · injection he with e1 e2 e3
      subst e1 e3
      go_enter Tryd.func10, Tryd.ntmps10
      go_wp2_with fail
      go_loopw [1, 5] (fun v u wr => u = .int .i64 0 ∧ v = .int .i64 l ∧ Gr w wr) (fun _ _ _ => 0)
      case atStart => exact ⟨rfl, rfl, Gr.refl _⟩
      case round =>
        obtain ⟨rfl, rfl, g⟩ := hrel
        have GW := hid g
        clear g
        go_wp2_with fail
        go_ret
        exact ⟨ret_int (by simp only [szSum]; omega), GW.out⟩
    · injection he with e1 e2 e3
      subst e1
      exact szSd_some ad c xs l w hr hs l0 l1 h1
  · rw [if_neg h1]
    exact szSd_no A xs.length c l w hm l0 l1 h1
/-- What is left of the size that the laws allow. -/
def szTo (xs : List Sdv) (l : Int) : Int := if (xs.length : Int) ≤ l then szSum xs (l - xs.length) else -1
theorem szTo_bd (xs : List Sdv) (l q : Int) (h : 0 ≤ l) (hq : szTo xs l = q) : -1 ≤ q ∧ q ≤ l ∧ (0 ≤ q → (xs.length : Int) ≤ l) := by
  unfold szTo at hq
  split at hq
  · have := szSum_le xs (l - xs.length) (by omega)
    omega
  · omega
theorem szSd_is (v : Value) (A : Option Addr) (c : Nat) (xs : List Sdv) (l q : Int) (w : World) (hv : v = .slice A xs.length c) (hr : RawSd w v xs) (hm : xs.length ≤ 9223372036854775807) (hs : ∀ x ∈ xs, x.nm.size ≤ 9223372036854775807) (l0 : 0 ≤ l) (l1 : l ≤ 1048576) (hq : szTo xs l = q) :
    Calls Tryd.prog 10 #[v, .int .i64 l] w fun e w' => e = .returned (.int .i64 q) ∧ Gr w w' := by
  rw [← hq]
  exact szSd_any v A c xs l w hv hr hm hs l0 l1
set_option maxRecDepth 20000 in
set_option maxHeartbeats 2000000 in
theorem toStandardS_some (ad : Addr) (cap : Nat) (xs : List Sdv) (w : World) (hn : xs.length ≤ 1048576) (hr : ∀ (k : Nat) (x : Sdv), xs[k]? = some x → CelSd w (ad.add (k * 10)) x) :
    Calls Tryd.prog 12 #[.slice (some ad) xs.length cap] w fun e w' => e = .returned (.slice (some ⟨w.heap.size, 0, none⟩) xs.length xs.length) ∧ w'.heap[w.heap.size]? = some (.cells (rowSd xs []) 54) ∧ Gr w w' := by
  have HR := hid hr; clear hr
  have hmk := makeSd xs.length hn
  go_enter Tryd.func12, Tryd.ntmps12
  go_wp2_with fail
  go_loopw [4] (fun u wr => ∃ (k : Nat), u = .int .i64 (k : Int) ∧ k ≤ xs.length ∧ Gr w wr ∧ wr.heap[w.heap.size]? = some (.cells (rowSd (xs.take k ++ List.replicate (xs.length - k) zSd) []) 54)) (fun u _ => xs.length - (intOf u).toNat)
  case atStart => exact ⟨0, rfl, by omega, (Gr.refl _).al _, by simpa using (alloc1 (Gr.refl (w.alloc (.cells (rowSd (List.replicate xs.length zSd) []) 54)))).1⟩
  case round =>
    obtain ⟨k, rfl, hk, g, x0⟩ := hrel
    clear hmk
    by_cases hlt : k < xs.length
    · obtain ⟨x, hx⟩ : ∃ x, xs[k]? = some x := ⟨xs[k], List.getElem?_eq_getElem _⟩
      have hz := ltb x0
      have GW := hid g; have X0 := hid x0
      obtain ⟨_, _, _, _, _, _, _, _, _, _⟩ := (HR.out k x hx).keep g
      have HP := hid hx
      clear g x0 hx
      go_wp2_with fail
      refine (toStandard_any x _).mono ?_
      rintro e w1 ⟨rfl, hg1⟩
      have G1 := hid (GW.out.trans hg1)
      have x1 := hg1.keep X0.out
      have _ := ltb x1
      have f1 := fz x1
      obtain ⟨_, _, _, _, _, _, _, _, _, _⟩ := (celSd_of x1 (takeSd_get hlt)).blk
      have X1 := hid x1
      have HL := hid (takeSd_len hlt)
      clear hg1 x1 X0 GW
      go_wp2_with fail
      refine ⟨⟨k + 1, by simp, by omega, ((((((((((G1.out).setCell (by simp <;> omega) _).setCell (by simp <;> omega) _).setCell (by simp <;> omega) _).setCell (by simp <;> omega) _).setCell (by simp <;> omega) _).setCell (by simp <;> omega) _).setCell (by simp <;> omega) _).setCell (by simp <;> omega) _).setCell (by simp <;> omega) _).setCell (by simp <;> omega) _, ?_⟩, by simp [intOf]; omega⟩
      have h := storeSd (k := k) x X1.out (by rw [HL.out]; exact hlt)
      rw [takeSd_step HP.out] at h
      exact h
    · have hke : k = xs.length := by omega
      have GW := hid g; have X0 := hid x0
      clear g x0
      go_wp2_with fail
      go_ret
      refine ⟨rfl, ?_, GW.out⟩
      have h := X0.out
      rw [hke] at h
      simpa using h
set_option maxRecDepth 20000 in
set_option maxHeartbeats 1000000 in
theorem toStandardS_none (w : World) :
    Calls Tryd.prog 12 #[.slice none 0 0] w fun e w' => e = .returned (.slice (some ⟨w.heap.size, 0, none⟩) 0 0) ∧ w'.heap[w.heap.size]? = some (.cells (rowSd [] []) 54) ∧ Gr w w' := by
  have hmk : ∀ w : World, (Instr.makeSlice 26 (.int .i64 0) (.int .i64 0)).run Tryd.prog w = .ok (.slice (some ⟨w.heap.size, 0, none⟩) 0 0) (w.alloc (.cells (rowSd [] []) 54)) := fun w => makeSd 0 (by omega) w
  go_enter Tryd.func12, Tryd.ntmps12
  go_wp2_with fail
  go_loopw [4] (fun u wr => u = .int .i64 0 ∧ Gr w wr ∧ wr.heap[w.heap.size]? = some (.cells (rowSd [] []) 54)) (fun _ _ => 0)
  case atStart => exact ⟨rfl, (Gr.refl _).al _, (alloc1 (Gr.refl _)).1⟩
  case round =>
    obtain ⟨rfl, g, x0⟩ := hrel
    have GW := hid g; have X0 := hid x0
    clear g x0
    go_wp2_with fail
    go_ret
    exact ⟨rfl, X0.out, GW.out⟩
theorem toStandardS_any (v : Value) (xs : List Sdv) (w : World) (hn : xs.length ≤ 1048576) (h : RawSd w v xs) :
    Calls Tryd.prog 12 #[v] w fun e w' => e = .returned (.slice (some ⟨w.heap.size, 0, none⟩) xs.length xs.length) ∧ w'.heap[w.heap.size]? = some (.cells (rowSd xs []) 54) ∧ Gr w w' := by
  rcases h with ⟨rfl, rfl⟩ | ⟨ad, cap, rfl, hr⟩
  · exact toStandardS_none w
  · exact toStandardS_some ad cap xs w hn hr
set_option maxRecDepth 20000 in
set_option maxHeartbeats 1000000 in
theorem eqSd_any (A A' : Option Addr) (c c' : Nat) (xs : List Sdv) (w : World) (X1 : Hid (RdSd w A xs)) (X2 : Hid (RdSd w A' xs)) (hn : xs.length ≤ 1048576) :
    Calls Tryd.prog 14 #[.slice A xs.length c, .slice A' xs.length c'] w fun e w' => e = .returned (.bool true) ∧ Gr w w' := by
  go_enter Tryd.func14, Tryd.ntmps14
  go_wp2_with fail
  go_loopw [5] (fun u wr => ∃ (k : Nat), u = .int .i64 (k : Int) ∧ k ≤ xs.length ∧ Gr w wr) (fun u _ => xs.length - (intOf u).toNat)
  case atStart => exact ⟨0, rfl, by omega, Gr.refl _⟩
  case round =>
    obtain ⟨k, rfl, hk, g0⟩ := hrel
    by_cases hlt : k < xs.length
    · obtain ⟨x, hx⟩ : ∃ x, xs[k]? = some x := ⟨xs[k], List.getElem?_eq_getElem _⟩
      obtain ⟨ad, rfl, c1⟩ := (X1.out.keep g0) k x hx
      obtain ⟨ad', rfl, c2⟩ := (X2.out.keep g0) k x hx
      have GW := hid g0; have C1 := hid c1; have C2 := hid c2; clear g0 hx c1 c2
      go_wp2_with fail
      refine wp_reg0 9 (by kernel_rfl) (by kernel_rfl) ?_
      apply Exists.intro
      refine ⟨fun wb hb => ?_, ?_⟩
      · have _ := hb.atF C1.out.h0; have _ := hb.atF C1.out.h1; have _ := hb.atF C1.out.h2; have _ := hb.atF C1.out.h3; have _ := hb.atF C1.out.h4; have _ := hb.atF C1.out.h5; have _ := hb.atF C1.out.h6; have _ := hb.atF C1.out.h7; have _ := hb.atF C1.out.h8; have _ := hb.atF C1.out.h9; have _ := hb.atF C2.out.h0; have _ := hb.atF C2.out.h1; have _ := hb.atF C2.out.h2; have _ := hb.atF C2.out.h3; have _ := hb.atF C2.out.h4; have _ := hb.atF C2.out.h5; have _ := hb.atF C2.out.h6; have _ := hb.atF C2.out.h7; have _ := hb.atF C2.out.h8; have _ := hb.atF C2.out.h9
        simp only [headOps, List.contains, List.elem, reduceIte, Bool.false_eq_true]
        repeat (first | go_big_quiet_step (first | (go_at_call 36; exact Calls.of_gr (eqStandard_any x _))) | quiet_step (fail))
        exact wpQuiet_nil rfl
      intro w1 hg1
      have G1 := hid (GW.out.trans hg1)
      clear hg1
      go_wp2_with fail
      exact ⟨⟨k + 1, by simp, by omega, G1.out⟩, by simp [intOf]; omega⟩
    · go_wp2_with fail
      go_ret
      exact ⟨rfl, g0⟩
end Go.Proofs.YtadpoocafhddeaaDoor
