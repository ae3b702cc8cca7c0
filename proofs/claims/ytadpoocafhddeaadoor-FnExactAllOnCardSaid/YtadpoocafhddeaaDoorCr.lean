/- CHAINS: ValidChain, of the reference. -/
import Derived.Test.YtadpoocafhddeaaDoorCv
import Derived.Deep.QuietTactic
namespace Go.Proofs.YtadpoocafhddeaaDoor
open Go.RowKit Go.Sort

theorem CelSd.span {w : World} {a : Addr} {x : Sdv} (h : CelSd w a x) : CelN w ⟨a.block, a.off + 2, none⟩ ⟨x.a, x.b, x.c, x.d⟩ := ⟨h.h2, h.h3, h.h4, h.h5⟩
theorem RdSd.take {w : World} {A : Option Addr} {xs : List Sdv} (h : RdSd w A xs) (n : Nat) : RdSd w A (xs.take n) := fun k x hk => by
  rw [List.getElem?_take] at hk
  split at hk
  · exact h k x hk
  · cases hk
theorem gr_inC {w wb : World} (hb : Gr w wb) {n : Nat} {os : Array Obj} : Gr w (grow (wb.drewN n) os) := hb.trans ⟨⟨n, os⟩, rfl⟩
theorem sDay (d : Int) (r : Bool) (w : World) (h : dayB d = r) : Calls Tryd.prog 51 #[.int .i64 d] w fun e w' => e = .returned (.bool r) ∧ Gr w w' := by
  subst h
  unfold dayB
  go_enter Tryd.func51, Tryd.ntmps51
  go_wp2_with (go_at_call 67; refine (in_any _ _ _ _).mono ?_; rintro e w1 ⟨rfl, rfl⟩)
  go_ret
  exact ⟨rfl, Gr.refl _⟩

set_option maxRecDepth 20000 in
set_option maxHeartbeats 1000000 in
theorem sGood_n (ad : Addr) (y : Sdv) (d : Int) (w : World) (C : Hid (CelSd w ad y)) (hs : soundB y = true) (h : decide (y.m ≤ d) = false) :
    Calls Tryd.prog 38 #[.pointer (some ad), .int .i64 d] w fun e w' => e = .returned (.bool false) ∧ Gr w w' := by
  obtain ⟨m1, m2, g1, g2⟩ := sound_bd hs
  clear hs
  go_enter Tryd.func38, Tryd.ntmps38
  go_wp2_with fail
  refine wp_reg0 19 (by kernel_rfl) (by kernel_rfl) ?_
  apply Exists.intro
  refine ⟨fun wb hb => ?_, ?_⟩
  · have _ := hb.atF C.out.h8; have _ := hb.atF C.out.h9
    simp only [headOps, List.contains, List.elem, reduceIte, Bool.false_eq_true]
    repeat (first | go_big_quiet_step (first | (fail)) | quiet_step (fail))
    exact wpQuiet_nil rfl
  intro w1 hg1
  have G1 := hid hg1
  clear hg1
  go_wp2
  go_ret
  exact ⟨rfl, G1.out⟩

set_option maxRecDepth 20000 in
set_option maxHeartbeats 1000000 in
theorem sGood_y (ad : Addr) (y : Sdv) (d : Int) (w : World) (C : Hid (CelSd w ad y)) (hs : soundB y = true) (h : y.m ≤ d) (h2 : d ≤ y.m + y.g) :
    Calls Tryd.prog 38 #[.pointer (some ad), .int .i64 d] w fun e w' => e = .returned (.bool true) ∧ Gr w w' := by
  obtain ⟨m1, m2, g1, g2⟩ := sound_bd hs
  clear hs
  go_enter Tryd.func38, Tryd.ntmps38
  go_wp2_with fail
  refine wp_reg0 19 (by kernel_rfl) (by kernel_rfl) ?_
  apply Exists.intro
  refine ⟨fun wb hb => ?_, ?_⟩
  · have _ := hb.atF C.out.h8; have _ := hb.atF C.out.h9
    simp only [headOps, List.contains, List.elem, reduceIte, Bool.false_eq_true]
    repeat (first | go_big_quiet_step (first | (fail)) | quiet_step (fail))
    exact wpQuiet_nil rfl
  intro w1 hg1
  have G1 := hid hg1
  clear hg1
  go_wp2
  go_ret
  exact ⟨rfl, G1.out⟩

set_option maxRecDepth 20000 in
set_option maxHeartbeats 1000000 in
theorem sGood_z (ad : Addr) (y : Sdv) (d : Int) (w : World) (C : Hid (CelSd w ad y)) (hs : soundB y = true) (h : y.m ≤ d) (h2 : decide (d ≤ y.m + y.g) = false) :
    Calls Tryd.prog 38 #[.pointer (some ad), .int .i64 d] w fun e w' => e = .returned (.bool false) ∧ Gr w w' := by
  obtain ⟨m1, m2, g1, g2⟩ := sound_bd hs
  clear hs
  go_enter Tryd.func38, Tryd.ntmps38
  go_wp2_with fail
  refine wp_reg0 19 (by kernel_rfl) (by kernel_rfl) ?_
  apply Exists.intro
  refine ⟨fun wb hb => ?_, ?_⟩
  · have _ := hb.atF C.out.h8; have _ := hb.atF C.out.h9
    simp only [headOps, List.contains, List.elem, reduceIte, Bool.false_eq_true]
    repeat (first | go_big_quiet_step (first | (fail)) | quiet_step (fail))
    exact wpQuiet_nil rfl
  intro w1 hg1
  have G1 := hid hg1
  clear hg1
  go_wp2
  go_ret
  exact ⟨rfl, G1.out⟩

theorem sGood (ad : Addr) (y : Sdv) (d : Int) (r : Bool) (w : World) (C : Hid (CelSd w ad y)) (hs : soundB y = true) (h : goodB y d = r) :
    Calls Tryd.prog 38 #[.pointer (some ad), .int .i64 d] w fun e w' => e = .returned (.bool r) ∧ Gr w w' := by
  subst h
  unfold goodB
  by_cases h1 : y.m ≤ d
  · by_cases h2 : d ≤ y.m + y.g
    · rw [decide_eq_true h1, decide_eq_true h2]
      exact sGood_y ad y d w C hs h1 h2
    · rw [decide_eq_true h1, decide_eq_false h2]
      exact sGood_z ad y d w C hs h1 (decide_eq_false h2)
  · rw [decide_eq_false h1]
    exact sGood_n ad y d w C hs (decide_eq_false h1)

set_option maxRecDepth 20000 in
set_option maxHeartbeats 1000000 in
theorem sStd_n1 (A : Option Addr) (n c : Nat) (ad : Addr) (x : Sdv) (w : World) (C0 : Hid (CelSd w ad x)) (h1 : spB x.a x.b x.c x.d = false) :
    Calls Tryd.prog 58 #[.slice A n c, .pointer (some ad)] w fun e w' => e = .returned (.bool false) ∧ Gr w w' := by
  have H1 := hid h1; clear h1
  obtain ⟨_, _, _, _, _, _, _, _, _, _⟩ := C0.out
  go_enter Tryd.func58, Tryd.ntmps58
  go_wp2_with fail
  refine (sSpanX_is x.a x.b x.c x.d false _ ad.block (ad.off + 2) (hid C0.out.span) H1.out).mono ?_
  rintro e w1 ⟨rfl, hg1⟩
  have C1 := hid (C0.out.keep hg1); have G1 := hid (hg1); clear hg1
  obtain ⟨_, _, _, _, _, _, _, _, _, _⟩ := C1.out
  go_wp2_with fail
  go_ret
  exact ⟨rfl, G1.out⟩

set_option maxRecDepth 20000 in
set_option maxHeartbeats 1000000 in
theorem sStd_n2 (A : Option Addr) (n c : Nat) (ad : Addr) (x : Sdv) (w : World) (C0 : Hid (CelSd w ad x)) (h1 : spB x.a x.b x.c x.d = true) (h2 : okB x.p x.q = false) :
    Calls Tryd.prog 58 #[.slice A n c, .pointer (some ad)] w fun e w' => e = .returned (.bool false) ∧ Gr w w' := by
  have H1 := hid h1; clear h1; have H2 := hid h2; clear h2
  obtain ⟨_, _, _, _, _, _, _, _, _, _⟩ := C0.out
  go_enter Tryd.func58, Tryd.ntmps58
  go_wp2_with fail
  refine (sSpanX_is x.a x.b x.c x.d true _ ad.block (ad.off + 2) (hid C0.out.span) H1.out).mono ?_
  rintro e w1 ⟨rfl, hg1⟩
  have C1 := hid (C0.out.keep hg1); have G1 := hid (hg1); clear hg1
  obtain ⟨_, _, _, _, _, _, _, _, _, _⟩ := C1.out
  go_wp2_with fail
  refine (sok_f _ _ _ H2.out).mono ?_
  rintro e w2 ⟨rfl, hg2⟩
  have C2 := hid (C1.out.keep hg2); have G2 := hid (G1.out.trans hg2); clear hg2
  obtain ⟨_, _, _, _, _, _, _, _, _, _⟩ := C2.out
  go_wp2_with fail
  go_ret
  exact ⟨rfl, G2.out⟩

set_option maxRecDepth 20000 in
set_option maxHeartbeats 1000000 in
theorem sStd_n3 (A : Option Addr) (n c : Nat) (ad : Addr) (x : Sdv) (w : World) (C0 : Hid (CelSd w ad x)) (h1 : spB x.a x.b x.c x.d = true) (h2 : okB x.p x.q = true) (h3 : ¬ 0 ≤ x.p) :
    Calls Tryd.prog 58 #[.slice A n c, .pointer (some ad)] w fun e w' => e = .returned (.bool false) ∧ Gr w w' := by
  have H1 := hid h1; clear h1; have H2 := hid h2; clear h2
  obtain ⟨_, _, _, _, _, _, _, _, _, _⟩ := C0.out
  go_enter Tryd.func58, Tryd.ntmps58
  go_wp2_with fail
  refine (sSpanX_is x.a x.b x.c x.d true _ ad.block (ad.off + 2) (hid C0.out.span) H1.out).mono ?_
  rintro e w1 ⟨rfl, hg1⟩
  have C1 := hid (C0.out.keep hg1); have G1 := hid (hg1); clear hg1
  obtain ⟨_, _, _, _, _, _, _, _, _, _⟩ := C1.out
  go_wp2_with fail
  refine (sok_t _ _ _ H2.out).mono ?_
  rintro e w2 ⟨rfl, hg2⟩
  have C2 := hid (C1.out.keep hg2); have G2 := hid (G1.out.trans hg2); clear hg2
  obtain ⟨_, _, _, _, _, _, _, _, _, _⟩ := C2.out
  go_wp2_with fail
  go_ret
  exact ⟨rfl, G2.out⟩

set_option maxRecDepth 20000 in
set_option maxHeartbeats 1000000 in
theorem sStd_n4 (A : Option Addr) (n c : Nat) (ad : Addr) (x : Sdv) (w : World) (C0 : Hid (CelSd w ad x)) (h1 : spB x.a x.b x.c x.d = true) (h2 : okB x.p x.q = true) (h3 : 0 ≤ x.p) (h4 : dayB x.m = false) :
    Calls Tryd.prog 58 #[.slice A n c, .pointer (some ad)] w fun e w' => e = .returned (.bool false) ∧ Gr w w' := by
  have H1 := hid h1; clear h1; have H2 := hid h2; clear h2; have H4 := hid h4; clear h4
  obtain ⟨_, _, _, _, _, _, _, _, _, _⟩ := C0.out
  go_enter Tryd.func58, Tryd.ntmps58
  go_wp2_with fail
  refine (sSpanX_is x.a x.b x.c x.d true _ ad.block (ad.off + 2) (hid C0.out.span) H1.out).mono ?_
  rintro e w1 ⟨rfl, hg1⟩
  have C1 := hid (C0.out.keep hg1); have G1 := hid (hg1); clear hg1
  obtain ⟨_, _, _, _, _, _, _, _, _, _⟩ := C1.out
  go_wp2_with fail
  refine (sok_t _ _ _ H2.out).mono ?_
  rintro e w2 ⟨rfl, hg2⟩
  have C2 := hid (C1.out.keep hg2); have G2 := hid (G1.out.trans hg2); clear hg2
  obtain ⟨_, _, _, _, _, _, _, _, _, _⟩ := C2.out
  go_wp2_with fail
  refine (sDay x.m false _ H4.out).mono ?_
  rintro e w3 ⟨rfl, hg3⟩
  have C3 := hid (C2.out.keep hg3); have G3 := hid (G2.out.trans hg3); clear hg3
  obtain ⟨_, _, _, _, _, _, _, _, _, _⟩ := C3.out
  go_wp2_with fail
  go_ret
  exact ⟨rfl, G3.out⟩

set_option maxRecDepth 20000 in
set_option maxHeartbeats 1000000 in
theorem sStd_n5 (A : Option Addr) (n c : Nat) (ad : Addr) (x : Sdv) (w : World) (C0 : Hid (CelSd w ad x)) (h1 : spB x.a x.b x.c x.d = true) (h2 : okB x.p x.q = true) (h3 : 0 ≤ x.p) (h4 : dayB x.m = true) (h5 : dayB x.g = false) :
    Calls Tryd.prog 58 #[.slice A n c, .pointer (some ad)] w fun e w' => e = .returned (.bool false) ∧ Gr w w' := by
  have H1 := hid h1; clear h1; have H2 := hid h2; clear h2; have H4 := hid h4; clear h4; have H5 := hid h5; clear h5
  obtain ⟨_, _, _, _, _, _, _, _, _, _⟩ := C0.out
  go_enter Tryd.func58, Tryd.ntmps58
  go_wp2_with fail
  refine (sSpanX_is x.a x.b x.c x.d true _ ad.block (ad.off + 2) (hid C0.out.span) H1.out).mono ?_
  rintro e w1 ⟨rfl, hg1⟩
  have C1 := hid (C0.out.keep hg1); have G1 := hid (hg1); clear hg1
  obtain ⟨_, _, _, _, _, _, _, _, _, _⟩ := C1.out
  go_wp2_with fail
  refine (sok_t _ _ _ H2.out).mono ?_
  rintro e w2 ⟨rfl, hg2⟩
  have C2 := hid (C1.out.keep hg2); have G2 := hid (G1.out.trans hg2); clear hg2
  obtain ⟨_, _, _, _, _, _, _, _, _, _⟩ := C2.out
  go_wp2_with fail
  refine (sDay x.m true _ H4.out).mono ?_
  rintro e w3 ⟨rfl, hg3⟩
  have C3 := hid (C2.out.keep hg3); have G3 := hid (G2.out.trans hg3); clear hg3
  obtain ⟨_, _, _, _, _, _, _, _, _, _⟩ := C3.out
  go_wp2_with fail
  refine (sDay x.g false _ H5.out).mono ?_
  rintro e w4 ⟨rfl, hg4⟩
  have C4 := hid (C3.out.keep hg4); have G4 := hid (G3.out.trans hg4); clear hg4
  obtain ⟨_, _, _, _, _, _, _, _, _, _⟩ := C4.out
  go_wp2_with fail
  go_ret
  exact ⟨rfl, G4.out⟩

set_option maxRecDepth 20000 in
set_option maxHeartbeats 1000000 in
theorem sStd_y1 (A : Option Addr) (n c : Nat) (ad : Addr) (x : Sdv) (w : World) (C0 : Hid (CelSd w ad x)) (h1 : spB x.a x.b x.c x.d = true) (h2 : okB x.p x.q = true) (h3 : 0 ≤ x.p) (h4 : dayB x.m = true) (h5 : dayB x.g = true) (hf : x.f = -1) :
    Calls Tryd.prog 58 #[.slice A n c, .pointer (some ad)] w fun e w' => e = .returned (.bool true) ∧ Gr w w' := by
  have H1 := hid h1; clear h1; have H2 := hid h2; clear h2; have H4 := hid h4; clear h4; have H5 := hid h5; clear h5
  have hf1 : (x.f == -1) = true := by simpa using hf
  obtain ⟨_, _, _, _, _, _, _, _, _, _⟩ := C0.out
  go_enter Tryd.func58, Tryd.ntmps58
  go_wp2_with fail
  refine (sSpanX_is x.a x.b x.c x.d true _ ad.block (ad.off + 2) (hid C0.out.span) H1.out).mono ?_
  rintro e w1 ⟨rfl, hg1⟩
  have C1 := hid (C0.out.keep hg1); have G1 := hid (hg1); clear hg1
  obtain ⟨_, _, _, _, _, _, _, _, _, _⟩ := C1.out
  go_wp2_with fail
  refine (sok_t _ _ _ H2.out).mono ?_
  rintro e w2 ⟨rfl, hg2⟩
  have C2 := hid (C1.out.keep hg2); have G2 := hid (G1.out.trans hg2); clear hg2
  obtain ⟨_, _, _, _, _, _, _, _, _, _⟩ := C2.out
  go_wp2_with fail
  refine (sDay x.m true _ H4.out).mono ?_
  rintro e w3 ⟨rfl, hg3⟩
  have C3 := hid (C2.out.keep hg3); have G3 := hid (G2.out.trans hg3); clear hg3
  obtain ⟨_, _, _, _, _, _, _, _, _, _⟩ := C3.out
  go_wp2_with fail
  refine (sDay x.g true _ H5.out).mono ?_
  rintro e w4 ⟨rfl, hg4⟩
  have C4 := hid (C3.out.keep hg4); have G4 := hid (G3.out.trans hg4); clear hg4
  obtain ⟨_, _, _, _, _, _, _, _, _, _⟩ := C4.out
  go_wp2_with fail
  go_ret
  exact ⟨rfl, G4.out⟩

theorem in_has (n : Nat) (i : Int) (r : Bool) (w : World) (_hn : n ≤ 1048576) (h : hasB n i = r) : Calls Tryd.prog 67 #[.int .i64 i, .int .i64 0, .int .i64 ((n : Int) - 1)] w fun e w' => e = .returned (.bool r) ∧ Gr w w' := (in_any _ _ _ w).mono fun e w' ⟨he, hw⟩ => ⟨by
  rw [he, ← h]
  unfold inB hasB
  congr 3
  exact decide_eq_decide.2 ⟨fun _ => by omega, fun _ => by omega⟩, hw ▸ Gr.refl _⟩

set_option maxRecDepth 20000 in
set_option maxHeartbeats 1000000 in
theorem sStd_y2 (A : Option Addr) (n c : Nat) (ad : Addr) (x : Sdv) (w : World) (C0 : Hid (CelSd w ad x)) (h1 : spB x.a x.b x.c x.d = true) (h2 : okB x.p x.q = true) (h3 : 0 ≤ x.p) (h4 : dayB x.m = true) (h5 : dayB x.g = true) (hf : x.f ≠ -1) (hh : hasB n x.f = false) (hn : n ≤ 1048576) :
    Calls Tryd.prog 58 #[.slice A n c, .pointer (some ad)] w fun e w' => e = .returned (.bool false) ∧ Gr w w' := by
  have H1 := hid h1; clear h1; have H2 := hid h2; clear h2; have H4 := hid h4; clear h4; have H5 := hid h5; clear h5
  have HH := hid hh; clear hh
  have hf1 : (x.f == -1) = false := by simpa using hf
  obtain ⟨_, _, _, _, _, _, _, _, _, _⟩ := C0.out
  go_enter Tryd.func58, Tryd.ntmps58
  go_wp2_with fail
  refine (sSpanX_is x.a x.b x.c x.d true _ ad.block (ad.off + 2) (hid C0.out.span) H1.out).mono ?_
  rintro e w1 ⟨rfl, hg1⟩
  have C1 := hid (C0.out.keep hg1); have G1 := hid (hg1); clear hg1
  obtain ⟨_, _, _, _, _, _, _, _, _, _⟩ := C1.out
  go_wp2_with fail
  refine (sok_t _ _ _ H2.out).mono ?_
  rintro e w2 ⟨rfl, hg2⟩
  have C2 := hid (C1.out.keep hg2); have G2 := hid (G1.out.trans hg2); clear hg2
  obtain ⟨_, _, _, _, _, _, _, _, _, _⟩ := C2.out
  go_wp2_with fail
  refine (sDay x.m true _ H4.out).mono ?_
  rintro e w3 ⟨rfl, hg3⟩
  have C3 := hid (C2.out.keep hg3); have G3 := hid (G2.out.trans hg3); clear hg3
  obtain ⟨_, _, _, _, _, _, _, _, _, _⟩ := C3.out
  go_wp2_with fail
  refine (sDay x.g true _ H5.out).mono ?_
  rintro e w4 ⟨rfl, hg4⟩
  have C4 := hid (C3.out.keep hg4); have G4 := hid (G3.out.trans hg4); clear hg4
  obtain ⟨_, _, _, _, _, _, _, _, _, _⟩ := C4.out
  go_wp2_with fail
  refine wp_reg0 21 (by kernel_rfl) (by kernel_rfl) ?_
  apply Exists.intro
  refine ⟨fun wb hb => ?_, ?_⟩
  · have _ := hb.atF C4.out.h1; have _ := hb.atF C4.out.h8
    simp only [headOps, List.contains, List.elem, reduceIte, Bool.false_eq_true]
    repeat (first | go_big_quiet_step (first | (go_at_call 67; exact Calls.of_gr (in_has n x.f false _ hn HH.out))) | quiet_step (fail))
    exact wpQuiet_nil rfl
  intro w9 hg9
  have G9 := hid (G4.out.trans hg9)
  clear hg9
  go_wp2
  go_ret
  exact ⟨rfl, G9.out⟩

set_option maxRecDepth 20000 in
set_option maxHeartbeats 1000000 in
theorem sStd_y3 (A : Option Addr) (n c : Nat) (P : List Sdv) (ad : Addr) (x : Sdv) (w : World) (C0 : Hid (CelSd w ad x)) (h1 : spB x.a x.b x.c x.d = true) (h2 : okB x.p x.q = true) (h3 : 0 ≤ x.p) (h4 : dayB x.m = true) (h5 : dayB x.g = true) (y : Sdv) (k : Nat) (r : Bool) (X : Hid (RdSd w A P)) (hl : P.length = n) (hk : x.f = (k : Int)) (hy : P[k]? = some y) (hys : soundB y = true) (hg : goodB y x.m = r) (hn : n ≤ 1048576) :
    Calls Tryd.prog 58 #[.slice A n c, .pointer (some ad)] w fun e w' => e = .returned (.bool r) ∧ Gr w w' := by
  have H1 := hid h1; clear h1; have H2 := hid h2; clear h2; have H4 := hid h4; clear h4; have H5 := hid h5; clear h5
  obtain ⟨nm, f, a, b, e, d, p, q, m, g⟩ := x
  simp only at hk h3 H1 H2 H4 H5 hg
  subst hk
  have hlt : k < n := by rw [← hl]; exact (List.getElem?_eq_some_iff.1 hy).1
  have HH : Hid (hasB n (k : Int) = true) := hid (by unfold hasB; simp; omega)
  have HYS := hid hys; have HG := hid hg; have HY := hid hy; clear hys hg hy hl
  have hf1 : ((k : Int) == -1) = false := by simp
  obtain ⟨_, _, _, _, _, _, _, _, _, _⟩ := C0.out
  go_enter Tryd.func58, Tryd.ntmps58
  go_wp2_with fail
  refine (sSpanX_is a b e d true _ ad.block (ad.off + 2) (hid C0.out.span) H1.out).mono ?_
  rintro e w1 ⟨rfl, hg1⟩
  have C1 := hid (C0.out.keep hg1); have G1 := hid (hg1); clear hg1
  obtain ⟨_, _, _, _, _, _, _, _, _, _⟩ := C1.out
  go_wp2_with fail
  refine (sok_t _ _ _ H2.out).mono ?_
  rintro e w2 ⟨rfl, hg2⟩
  have C2 := hid (C1.out.keep hg2); have G2 := hid (G1.out.trans hg2); clear hg2
  obtain ⟨_, _, _, _, _, _, _, _, _, _⟩ := C2.out
  go_wp2_with fail
  refine (sDay m true _ H4.out).mono ?_
  rintro e w3 ⟨rfl, hg3⟩
  have C3 := hid (C2.out.keep hg3); have G3 := hid (G2.out.trans hg3); clear hg3
  obtain ⟨_, _, _, _, _, _, _, _, _, _⟩ := C3.out
  go_wp2_with fail
  refine (sDay g true _ H5.out).mono ?_
  rintro e w4 ⟨rfl, hg4⟩
  have C4 := hid (C3.out.keep hg4); have G4 := hid (G3.out.trans hg4); clear hg4
  obtain ⟨_, _, _, _, _, _, _, _, _, _⟩ := C4.out
  go_wp2_with fail
  obtain ⟨ad2, rfl, cy⟩ := (X.out.keep G4.out) k y HY.out
  have CY := hid cy; clear cy
  refine wp_reg0 21 (by kernel_rfl) (by kernel_rfl) ?_
  apply Exists.intro
  refine ⟨fun wb hb => ?_, ?_⟩
  · have _ := hb.atF C4.out.h1; have _ := hb.atF C4.out.h8
    simp only [headOps, List.contains, List.elem, reduceIte, Bool.false_eq_true]
    repeat (first | go_big_quiet_step (first | (go_at_call 67; exact Calls.of_gr (in_has n (k : Int) true _ hn HH.out)) | (go_at_call 38; exact Calls.of_gr (sGood _ y m r _ (hid (CY.out.keep (gr_inC hb))) HYS.out HG.out))) | quiet_step (fail))
    exact wpQuiet_nil rfl
  intro w9 hg9
  have G9 := hid (G4.out.trans hg9)
  clear hg9
  go_wp2
  go_ret
  exact ⟨rfl, G9.out⟩

end Go.Proofs.YtadpoocafhddeaaDoor
