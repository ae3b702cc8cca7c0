/- CHAINS: ValidChain, of the reference. -/
import Derived.Test.YtadpoocafhddeaaDoorCv
import Derived.Deep.QuietTactic
import Derived.Test.YtadpoocafhddeaaDoorCk
namespace Go.Proofs.YtadpoocafhddeaaDoor
open Go.RowKit Go.Sort

theorem CelSd.span {w : World} {a : Addr} {x : Sdv} (h : CelSd w a x) : CelN w ⟨a.block, a.off + 2, none⟩ ⟨x.a, x.b, x.c, x.d⟩ := ⟨h.h2, h.h3, h.h4, h.h5⟩
theorem RdSd.take {w : World} {A : Option Addr} {xs : List Sdv} (h : RdSd w A xs) (n : Nat) : RdSd w A (xs.take n) := fun k x hk => by
  rw [List.getElem?_take] at hk
  split at hk
  · exact h k x hk
  · cases hk
theorem gr_inC {w wb : World} (hb : Gr w wb) {n : Nat} {os : Array Obj} : Gr w (grow (wb.drewN n) os) := hb.trans ⟨⟨n, os⟩, rfl⟩
theorem sDay (d : Int) (r : Bool) (w : World) (h : dayB d = r) : Calls Tryd.prog 51 #[.int .i64 d] w fun e w' => e = .returned (.bool r) ∧ Gr w w' := by
  subst h
  unfold dayB
  go_enter Tryd.func51, Tryd.ntmps51
  go_wp2_with (go_at_call 67; refine (in_any _ _ _ _).mono ?_; rintro e w1 ⟨rfl, rfl⟩)
  go_ret
  exact ⟨rfl, Gr.refl _⟩

set_option maxRecDepth 20000 in
set_option maxHeartbeats 1000000 in
theorem sGood_n (ad : Addr) (y : Sdv) (d : Int) (w : World) (C : Hid (CelSd w ad y)) (hs : soundB y = true) (h : decide (y.m ≤ d) = false) :
    Calls Tryd.prog 38 #[.pointer (some ad), .int .i64 d] w fun e w' => e = .returned (.bool false) ∧ Gr w w' := by
  obtain ⟨m1, m2, g1, g2⟩ := sound_bd hs
  clear hs
  go_enter Tryd.func38, Tryd.ntmps38
  go_wp2_with fail
  refine wp_reg0 19 (by kernel_rfl) (by kernel_rfl) ?_
  apply Exists.intro
  refine ⟨fun wb hb => ?_, ?_⟩
  · have _ := hb.atF C.out.h8; have _ := hb.atF C.out.h9
    simp only [headOps, List.contains, List.elem, reduceIte, Bool.false_eq_true]
    repeat (first | go_big_quiet_step (first | (fail)) | quiet_step (fail))
    exact wpQuiet_nil rfl
  intro w1 hg1
  have G1 := hid hg1
  clear hg1
  go_wp2
  go_ret
  exact ⟨rfl, G1.out⟩

set_option maxRecDepth 20000 in
set_option maxHeartbeats 1000000 in
theorem sGood_y (ad : Addr) (y : Sdv) (d : Int) (w : World) (C : Hid (CelSd w ad y)) (hs : soundB y = true) (h : y.m ≤ d) (h2 : d ≤ y.m + y.g) :
    Calls Tryd.prog 38 #[.pointer (some ad), .int .i64 d] w fun e w' => e = .returned (.bool true) ∧ Gr w w' := by
  obtain ⟨m1, m2, g1, g2⟩ := sound_bd hs
  clear hs
  go_enter Tryd.func38, Tryd.ntmps38
  go_wp2_with fail
  refine wp_reg0 19 (by kernel_rfl) (by kernel_rfl) ?_
  apply Exists.intro
  refine ⟨fun wb hb => ?_, ?_⟩
  · have _ := hb.atF C.out.h8; have _ := hb.atF C.out.h9
    simp only [headOps, List.contains, List.elem, reduceIte, Bool.false_eq_true]
    repeat (first | go_big_quiet_step (first | (fail)) | quiet_step (fail))
    exact wpQuiet_nil rfl
  intro w1 hg1
  have G1 := hid hg1
  clear hg1
  go_wp2
  go_ret
  exact ⟨rfl, G1.out⟩

set_option maxRecDepth 20000 in
set_option maxHeartbeats 1000000 in
theorem sGood_z (ad : Addr) (y : Sdv) (d : Int) (w : World) (C : Hid (CelSd w ad y)) (hs : soundB y = true) (h : y.m ≤ d) (h2 : decide (d ≤ y.m + y.g) = false) :
    Calls Tryd.prog 38 #[.pointer (some ad), .int .i64 d] w fun e w' => e = .returned (.bool false) ∧ Gr w w' := by
  obtain ⟨m1, m2, g1, g2⟩ := sound_bd hs
  clear hs
  go_enter Tryd.func38, Tryd.ntmps38
  go_wp2_with fail
  refine wp_reg0 19 (by kernel_rfl) (by kernel_rfl) ?_
  apply Exists.intro
  refine ⟨fun wb hb => ?_, ?_⟩
  · have _ := hb.atF C.out.h8; have _ := hb.atF C.out.h9
    simp only [headOps, List.contains, List.elem, reduceIte, Bool.false_eq_true]
    repeat (first | go_big_quiet_step (first | (fail)) | quiet_step (fail))
    exact wpQuiet_nil rfl
  intro w1 hg1
  have G1 := hid hg1
  clear hg1
  go_wp2
  go_ret
  exact ⟨rfl, G1.out⟩

theorem sGood (ad : Addr) (y : Sdv) (d : Int) (r : Bool) (w : World) (C : Hid (CelSd w ad y)) (hs : soundB y = true) (h : goodB y d = r) :
    Calls Tryd.prog 38 #[.pointer (some ad), .int .i64 d] w fun e w' => e = .returned (.bool r) ∧ Gr w w' := by
  subst h
  unfold goodB
  by_cases h1 : y.m ≤ d
  · by_cases h2 : d ≤ y.m + y.g
    · rw [decide_eq_true h1, decide_eq_true h2]
      exact sGood_y ad y d w C hs h1 h2
    · rw [decide_eq_true h1, decide_eq_false h2]
      exact sGood_z ad y d w C hs h1 (decide_eq_false h2)
  · rw [decide_eq_false h1]
    exact sGood_n ad y d w C hs (decide_eq_false h1)

set_option maxRecDepth 20000 in
set_option maxHeartbeats 1000000 in
theorem sStd_n1 (A : Option Addr) (n c : Nat) (ad : Addr) (x : Sdv) (w : World) (C0 : Hid (CelSd w ad x)) (h1 : spB x.a x.b x.c x.d = false) :
    Calls Tryd.prog 58 #[.slice A n c, .pointer (some ad)] w fun e w' => e = .returned (.bool false) ∧ Gr w w' := by
  have H1 := hid h1; clear h1
  obtain ⟨_, _, _, _, _, _, _, _, _, _⟩ := C0.out
  go_enter Tryd.func58, Tryd.ntmps58
  go_wp2_with fail
  refine (sSpanX_is x.a x.b x.c x.d false _ ad.block (ad.off + 2) (hid C0.out.span) H1.out).mono ?_
  rintro e w1 ⟨rfl, hg1⟩
  have C1 := hid (C0.out.keep hg1); have G1 := hid (hg1); clear hg1
  obtain ⟨_, _, _, _, _, _, _, _, _, _⟩ := C1.out
  go_wp2_with fail
  go_ret
  exact ⟨rfl, G1.out⟩

set_option maxRecDepth 20000 in
set_option maxHeartbeats 1000000 in
theorem sStd_n2 (A : Option Addr) (n c : Nat) (ad : Addr) (x : Sdv) (w : World) (C0 : Hid (CelSd w ad x)) (h1 : spB x.a x.b x.c x.d = true) (h2 : okB x.p x.q = false) :
    Calls Tryd.prog 58 #[.slice A n c, .pointer (some ad)] w fun e w' => e = .returned (.bool false) ∧ Gr w w' := by
  have H1 := hid h1; clear h1; have H2 := hid h2; clear h2
  obtain ⟨_, _, _, _, _, _, _, _, _, _⟩ := C0.out
  go_enter Tryd.func58, Tryd.ntmps58
  go_wp2_with fail
  refine (sSpanX_is x.a x.b x.c x.d true _ ad.block (ad.off + 2) (hid C0.out.span) H1.out).mono ?_
  rintro e w1 ⟨rfl, hg1⟩
  have C1 := hid (C0.out.keep hg1); have G1 := hid (hg1); clear hg1
  obtain ⟨_, _, _, _, _, _, _, _, _, _⟩ := C1.out
  go_wp2_with fail
  refine (sok_f _ _ _ H2.out).mono ?_
  rintro e w2 ⟨rfl, hg2⟩
  have C2 := hid (C1.out.keep hg2); have G2 := hid (G1.out.trans hg2); clear hg2
  obtain ⟨_, _, _, _, _, _, _, _, _, _⟩ := C2.out
  go_wp2_with fail
  go_ret
  exact ⟨rfl, G2.out⟩

set_option maxRecDepth 20000 in
set_option maxHeartbeats 1000000 in
theorem sStd_n3 (A : Option Addr) (n c : Nat) (ad : Addr) (x : Sdv) (w : World) (C0 : Hid (CelSd w ad x)) (h1 : spB x.a x.b x.c x.d = true) (h2 : okB x.p x.q = true) (h3 : ¬ 0 ≤ x.p) :
    Calls Tryd.prog 58 #[.slice A n c, .pointer (some ad)] w fun e w' => e = .returned (.bool false) ∧ Gr w w' := by
  have H1 := hid h1; clear h1; have H2 := hid h2; clear h2
  obtain ⟨_, _, _, _, _, _, _, _, _, _⟩ := C0.out
  go_enter Tryd.func58, Tryd.ntmps58
  go_wp2_with fail
  refine (sSpanX_is x.a x.b x.c x.d true _ ad.block (ad.off + 2) (hid C0.out.span) H1.out).mono ?_
  rintro e w1 ⟨rfl, hg1⟩
  have C1 := hid (C0.out.keep hg1); have G1 := hid (hg1); clear hg1
  obtain ⟨_, _, _, _, _, _, _, _, _, _⟩ := C1.out
  go_wp2_with fail
  refine (sok_t _ _ _ H2.out).mono ?_
  rintro e w2 ⟨rfl, hg2⟩
  have C2 := hid (C1.out.keep hg2); have G2 := hid (G1.out.trans hg2); clear hg2
  obtain ⟨_, _, _, _, _, _, _, _, _, _⟩ := C2.out
  go_wp2_with fail
  go_ret
  exact ⟨rfl, G2.out⟩

set_option maxRecDepth 20000 in
set_option maxHeartbeats 1000000 in
theorem sStd_n4 (A : Option Addr) (n c : Nat) (ad : Addr) (x : Sdv) (w : World) (C0 : Hid (CelSd w ad x)) (h1 : spB x.a x.b x.c x.d = true) (h2 : okB x.p x.q = true) (h3 : 0 ≤ x.p) (h4 : dayB x.m = false) :
    Calls Tryd.prog 58 #[.slice A n c, .pointer (some ad)] w fun e w' => e = .returned (.bool false) ∧ Gr w w' := by
  have H1 := hid h1; clear h1; have H2 := hid h2; clear h2; have H4 := hid h4; clear h4
  obtain ⟨_, _, _, _, _, _, _, _, _, _⟩ := C0.out
  go_enter Tryd.func58, Tryd.ntmps58
  go_wp2_with fail
  refine (sSpanX_is x.a x.b x.c x.d true _ ad.block (ad.off + 2) (hid C0.out.span) H1.out).mono ?_
  rintro e w1 ⟨rfl, hg1⟩
  have C1 := hid (C0.out.keep hg1); have G1 := hid (hg1); clear hg1
  obtain ⟨_, _, _, _, _, _, _, _, _, _⟩ := C1.out
  go_wp2_with fail
  refine (sok_t _ _ _ H2.out).mono ?_
  rintro e w2 ⟨rfl, hg2⟩
  have C2 := hid (C1.out.keep hg2); have G2 := hid (G1.out.trans hg2); clear hg2
  obtain ⟨_, _, _, _, _, _, _, _, _, _⟩ := C2.out
  go_wp2_with fail
  refine (sDay x.m false _ H4.out).mono ?_
  rintro e w3 ⟨rfl, hg3⟩
  have C3 := hid (C2.out.keep hg3); have G3 := hid (G2.out.trans hg3); clear hg3
  obtain ⟨_, _, _, _, _, _, _, _, _, _⟩ := C3.out
  go_wp2_with fail
  go_ret
  exact ⟨rfl, G3.out⟩

set_option maxRecDepth 20000 in
set_option maxHeartbeats 1000000 in
theorem sStd_n5 (A : Option Addr) (n c : Nat) (ad : Addr) (x : Sdv) (w : World) (C0 : Hid (CelSd w ad x)) (h1 : spB x.a x.b x.c x.d = true) (h2 : okB x.p x.q = true) (h3 : 0 ≤ x.p) (h4 : dayB x.m = true) (h5 : dayB x.g = false) :
    Calls Tryd.prog 58 #[.slice A n c, .pointer (some ad)] w fun e w' => e = .returned (.bool false) ∧ Gr w w' := by
  have H1 := hid h1; clear h1; have H2 := hid h2; clear h2; have H4 := hid h4; clear h4; have H5 := hid h5; clear h5
  obtain ⟨_, _, _, _, _, _, _, _, _, _⟩ := C0.out
  go_enter Tryd.func58, Tryd.ntmps58
  go_wp2_with fail
  refine (sSpanX_is x.a x.b x.c x.d true _ ad.block (ad.off + 2) (hid C0.out.span) H1.out).mono ?_
  rintro e w1 ⟨rfl, hg1⟩
  have C1 := hid (C0.out.keep hg1); have G1 := hid (hg1); clear hg1
  obtain ⟨_, _, _, _, _, _, _, _, _, _⟩ := C1.out
  go_wp2_with fail
  refine (sok_t _ _ _ H2.out).mono ?_
  rintro e w2 ⟨rfl, hg2⟩
  have C2 := hid (C1.out.keep hg2); have G2 := hid (G1.out.trans hg2); clear hg2
  obtain ⟨_, _, _, _, _, _, _, _, _, _⟩ := C2.out
  go_wp2_with fail
  refine (sDay x.m true _ H4.out).mono ?_
  rintro e w3 ⟨rfl, hg3⟩
  have C3 := hid (C2.out.keep hg3); have G3 := hid (G2.out.trans hg3); clear hg3
  obtain ⟨_, _, _, _, _, _, _, _, _, _⟩ := C3.out
  go_wp2_with fail
  refine (sDay x.g false _ H5.out).mono ?_
  rintro e w4 ⟨rfl, hg4⟩
  have C4 := hid (C3.out.keep hg4); have G4 := hid (G3.out.trans hg4); clear hg4
  obtain ⟨_, _, _, _, _, _, _, _, _, _⟩ := C4.out
  go_wp2_with fail
  go_ret
  exact ⟨rfl, G4.out⟩

set_option maxRecDepth 20000 in
set_option maxHeartbeats 1000000 in
theorem sStd_y1 (A : Option Addr) (n c : Nat) (ad : Addr) (x : Sdv) (w : World) (C0 : Hid (CelSd w ad x)) (h1 : spB x.a x.b x.c x.d = true) (h2 : okB x.p x.q = true) (h3 : 0 ≤ x.p) (h4 : dayB x.m = true) (h5 : dayB x.g = true) (hf : x.f = -1) :
    Calls Tryd.prog 58 #[.slice A n c, .pointer (some ad)] w fun e w' => e = .returned (.bool true) ∧ Gr w w' := by
  have H1 := hid h1; clear h1; have H2 := hid h2; clear h2; have H4 := hid h4; clear h4; have H5 := hid h5; clear h5
  have hf1 : (x.f == -1) = true := by simpa using hf
  obtain ⟨_, _, _, _, _, _, _, _, _, _⟩ := C0.out
  go_enter Tryd.func58, Tryd.ntmps58
  go_wp2_with fail
  refine (sSpanX_is x.a x.b x.c x.d true _ ad.block (ad.off + 2) (hid C0.out.span) H1.out).mono ?_
  rintro e w1 ⟨rfl, hg1⟩
  have C1 := hid (C0.out.keep hg1); have G1 := hid (hg1); clear hg1
  obtain ⟨_, _, _, _, _, _, _, _, _, _⟩ := C1.out
  go_wp2_with fail
  refine (sok_t _ _ _ H2.out).mono ?_
  rintro e w2 ⟨rfl, hg2⟩
  have C2 := hid (C1.out.keep hg2); have G2 := hid (G1.out.trans hg2); clear hg2
  obtain ⟨_, _, _, _, _, _, _, _, _, _⟩ := C2.out
  go_wp2_with fail
  refine (sDay x.m true _ H4.out).mono ?_
  rintro e w3 ⟨rfl, hg3⟩
  have C3 := hid (C2.out.keep hg3); have G3 := hid (G2.out.trans hg3); clear hg3
  obtain ⟨_, _, _, _, _, _, _, _, _, _⟩ := C3.out
  go_wp2_with fail
  refine (sDay x.g true _ H5.out).mono ?_
  rintro e w4 ⟨rfl, hg4⟩
  have C4 := hid (C3.out.keep hg4); have G4 := hid (G3.out.trans hg4); clear hg4
  obtain ⟨_, _, _, _, _, _, _, _, _, _⟩ := C4.out
  go_wp2_with fail
  go_ret
  exact ⟨rfl, G4.out⟩

theorem in_has (n : Nat) (i : Int) (r : Bool) (w : World) (_hn : n ≤ 1048576) (h : hasB n i = r) : Calls Tryd.prog 67 #[.int .i64 i, .int .i64 0, .int .i64 ((n : Int) - 1)] w fun e w' => e = .returned (.bool r) ∧ Gr w w' := (in_any _ _ _ w).mono fun e w' ⟨he, hw⟩ => ⟨by
  rw [he, ← h]
  unfold inB hasB
  congr 3
  exact decide_eq_decide.2 ⟨fun _ => by omega, fun _ => by omega⟩, hw ▸ Gr.refl _⟩

set_option maxRecDepth 20000 in
set_option maxHeartbeats 1000000 in
theorem sStd_y2 (A : Option Addr) (n c : Nat) (ad : Addr) (x : Sdv) (w : World) (C0 : Hid (CelSd w ad x)) (h1 : spB x.a x.b x.c x.d = true) (h2 : okB x.p x.q = true) (h3 : 0 ≤ x.p) (h4 : dayB x.m = true) (h5 : dayB x.g = true) (hf : x.f ≠ -1) (hh : hasB n x.f = false) (hn : n ≤ 1048576) :
    Calls Tryd.prog 58 #[.slice A n c, .pointer (some ad)] w fun e w' => e = .returned (.bool false) ∧ Gr w w' := by
  have H1 := hid h1; clear h1; have H2 := hid h2; clear h2; have H4 := hid h4; clear h4; have H5 := hid h5; clear h5
  have HH := hid hh; clear hh
  have hf1 : (x.f == -1) = false := by simpa using hf
  obtain ⟨_, _, _, _, _, _, _, _, _, _⟩ := C0.out
  go_enter Tryd.func58, Tryd.ntmps58
  go_wp2_with fail
  refine (sSpanX_is x.a x.b x.c x.d true _ ad.block (ad.off + 2) (hid C0.out.span) H1.out).mono ?_
  rintro e w1 ⟨rfl, hg1⟩
  have C1 := hid (C0.out.keep hg1); have G1 := hid (hg1); clear hg1
  obtain ⟨_, _, _, _, _, _, _, _, _, _⟩ := C1.out
  go_wp2_with fail
  refine (sok_t _ _ _ H2.out).mono ?_
  rintro e w2 ⟨rfl, hg2⟩
  have C2 := hid (C1.out.keep hg2); have G2 := hid (G1.out.trans hg2); clear hg2
  obtain ⟨_, _, _, _, _, _, _, _, _, _⟩ := C2.out
  go_wp2_with fail
  refine (sDay x.m true _ H4.out).mono ?_
  rintro e w3 ⟨rfl, hg3⟩
  have C3 := hid (C2.out.keep hg3); have G3 := hid (G2.out.trans hg3); clear hg3
  obtain ⟨_, _, _, _, _, _, _, _, _, _⟩ := C3.out
  go_wp2_with fail
  refine (sDay x.g true _ H5.out).mono ?_
  rintro e w4 ⟨rfl, hg4⟩
  have C4 := hid (C3.out.keep hg4); have G4 := hid (G3.out.trans hg4); clear hg4
  obtain ⟨_, _, _, _, _, _, _, _, _, _⟩ := C4.out
  go_wp2_with fail
  refine wp_reg0 21 (by kernel_rfl) (by kernel_rfl) ?_
  apply Exists.intro
  refine ⟨fun wb hb => ?_, ?_⟩
  · have _ := hb.atF C4.out.h1; have _ := hb.atF C4.out.h8
    simp only [headOps, List.contains, List.elem, reduceIte, Bool.false_eq_true]
    repeat (first | go_big_quiet_step (first | (go_at_call 67; exact Calls.of_gr (in_has n x.f false _ hn HH.out))) | quiet_step (fail))
    exact wpQuiet_nil rfl
  intro w9 hg9
  have G9 := hid (G4.out.trans hg9)
  clear hg9
  go_wp2
  go_ret
  exact ⟨rfl, G9.out⟩

set_option maxRecDepth 20000 in
set_option maxHeartbeats 1000000 in
theorem sStd_y3 (A : Option Addr) (n c : Nat) (P : List Sdv) (ad : Addr) (x : Sdv) (w : World) (C0 : Hid (CelSd w ad x)) (h1 : spB x.a x.b x.c x.d = true) (h2 : okB x.p x.q = true) (h3 : 0 ≤ x.p) (h4 : dayB x.m = true) (h5 : dayB x.g = true) (y : Sdv) (k : Nat) (r : Bool) (X : Hid (RdSd w A P)) (hl : P.length = n) (hk : x.f = (k : Int)) (hy : P[k]? = some y) (hys : soundB y = true) (hg : goodB y x.m = r) (hn : n ≤ 1048576) :
    Calls Tryd.prog 58 #[.slice A n c, .pointer (some ad)] w fun e w' => e = .returned (.bool r) ∧ Gr w w' := by
  have H1 := hid h1; clear h1; have H2 := hid h2; clear h2; have H4 := hid h4; clear h4; have H5 := hid h5; clear h5
  obtain ⟨nm, f, a, b, e, d, p, q, m, g⟩ := x
  simp only at hk h3 H1 H2 H4 H5 hg
  subst hk
  have hlt : k < n := by rw [← hl]; exact (List.getElem?_eq_some_iff.1 hy).1
  have HH : Hid (hasB n (k : Int) = true) := hid (by unfold hasB; simp; omega)
  have HYS := hid hys; have HG := hid hg; have HY := hid hy; clear hys hg hy hl
  have hf1 : ((k : Int) == -1) = false := by simp
  obtain ⟨_, _, _, _, _, _, _, _, _, _⟩ := C0.out
  go_enter Tryd.func58, Tryd.ntmps58
  go_wp2_with fail
  refine (sSpanX_is a b e d true _ ad.block (ad.off + 2) (hid C0.out.span) H1.out).mono ?_
  rintro e w1 ⟨rfl, hg1⟩
  have C1 := hid (C0.out.keep hg1); have G1 := hid (hg1); clear hg1
  obtain ⟨_, _, _, _, _, _, _, _, _, _⟩ := C1.out
  go_wp2_with fail
  refine (sok_t _ _ _ H2.out).mono ?_
  rintro e w2 ⟨rfl, hg2⟩
  have C2 := hid (C1.out.keep hg2); have G2 := hid (G1.out.trans hg2); clear hg2
  obtain ⟨_, _, _, _, _, _, _, _, _, _⟩ := C2.out
  go_wp2_with fail
  refine (sDay m true _ H4.out).mono ?_
  rintro e w3 ⟨rfl, hg3⟩
  have C3 := hid (C2.out.keep hg3); have G3 := hid (G2.out.trans hg3); clear hg3
  obtain ⟨_, _, _, _, _, _, _, _, _, _⟩ := C3.out
  go_wp2_with fail
  refine (sDay g true _ H5.out).mono ?_
  rintro e w4 ⟨rfl, hg4⟩
  have C4 := hid (C3.out.keep hg4); have G4 := hid (G3.out.trans hg4); clear hg4
  obtain ⟨_, _, _, _, _, _, _, _, _, _⟩ := C4.out
  go_wp2_with fail
  obtain ⟨ad2, rfl, cy⟩ := (X.out.keep G4.out) k y HY.out
  have CY := hid cy; clear cy
  refine wp_reg0 21 (by kernel_rfl) (by kernel_rfl) ?_
  apply Exists.intro
  refine ⟨fun wb hb => ?_, ?_⟩
  · have _ := hb.atF C4.out.h1; have _ := hb.atF C4.out.h8
    simp only [headOps, List.contains, List.elem, reduceIte, Bool.false_eq_true]
    repeat (first | go_big_quiet_step (first | (go_at_call 67; exact Calls.of_gr (in_has n (k : Int) true _ hn HH.out)) | (go_at_call 38; exact Calls.of_gr (sGood _ y m r _ (hid (CY.out.keep (gr_inC hb))) HYS.out HG.out))) | quiet_step (fail))
    exact wpQuiet_nil rfl
  intro w9 hg9
  have G9 := hid (G4.out.trans hg9)
  clear hg9
  go_wp2
  go_ret
  exact ⟨rfl, G9.out⟩

end Go.Proofs.YtadpoocafhddeaaDoor
namespace Go.Proofs.YtadpoocafhddeaaDoor
open Go.RowKit Go.Sort

def fromP (P : List Sdv) (x : Sdv) : Prop := x.f = -1 ∨ ∃ (k : Nat) (y : Sdv), x.f = (k : Int) ∧ P[k]? = some y ∧ goodB y x.m = true
def stdB (x : Sdv) : Bool := spB x.a x.b x.c x.d && (okB x.p x.q && (decide (0 ≤ x.p) && (dayB x.m && dayB x.g)))
theorem sound_std (x : Sdv) : soundB x = (nmB x.nm 12 && stdB x) := rfl
/-- spec.l05Standard -/
theorem sStd (A : Option Addr) (n c : Nat) (P : List Sdv) (ad : Addr) (x : Sdv) (r : Bool) (w : World) (C0 : Hid (CelSd w ad x)) (X : Hid (RdSd w A P)) (hl : P.length = n) (hn : n ≤ 1048576) (hP : ∀ (k : Nat) (y : Sdv), P[k]? = some y → soundB y = true) (hr : r = true ↔ stdB x = true ∧ fromP P x) :
    Calls Tryd.prog 58 #[.slice A n c, .pointer (some ad)] w fun e w' => e = .returned (.bool r) ∧ Gr w w' := by
  have hf : ∀ b : Bool, b = false → stdB x = b → r = false := fun b hb h => by
    cases r with
    | false => rfl
    | true => have := (hr.1 rfl).1; rw [h, hb] at this; cases this
  cases h1 : spB x.a x.b x.c x.d with
  | false => rw [hf _ rfl (by unfold stdB; simp [h1])]; exact sStd_n1 A n c ad x w C0 h1
  | true =>
    cases h2 : okB x.p x.q with
    | false => rw [hf _ rfl (by unfold stdB; simp [h2])]; exact sStd_n2 A n c ad x w C0 h1 h2
    | true =>
      by_cases h3 : 0 ≤ x.p
      · cases h4 : dayB x.m with
        | false => rw [hf _ rfl (by unfold stdB; simp [h4])]; exact sStd_n4 A n c ad x w C0 h1 h2 h3 h4
        | true =>
          cases h5 : dayB x.g with
          | false => rw [hf _ rfl (by unfold stdB; simp [h5])]; exact sStd_n5 A n c ad x w C0 h1 h2 h3 h4 h5
          | true =>
            have hs : stdB x = true := by unfold stdB; simp [h1, h2, h3, h4, h5]
            by_cases h6 : x.f = -1
            · rw [show r = true from hr.2 ⟨hs, .inl h6⟩]
              exact sStd_y1 A n c ad x w C0 h1 h2 h3 h4 h5 h6
            · cases h7 : hasB n x.f with
              | false =>
                have : r = false := by
                  cases r with
                  | false => rfl
                  | true =>
                    rcases (hr.1 rfl).2 with h | ⟨k, y, h, hy, _⟩
                    · exact absurd h h6
                    · have hk := (List.getElem?_eq_some_iff.1 hy).1
                      rw [h, has_lt (by omega)] at h7
                      cases h7
                rw [this]
                exact sStd_y2 A n c ad x w C0 h1 h2 h3 h4 h5 h6 h7 hn
              | true =>
                have h8 := h7
                unfold hasB at h8
                simp only [Bool.and_eq_true, decide_eq_true_eq] at h8
                obtain ⟨k, hk⟩ : ∃ k : Nat, x.f = (k : Int) := ⟨x.f.toNat, by omega⟩
                have hlt : k < P.length := by omega
                have hy : P[k]? = some P[k] := List.getElem?_eq_getElem _
                have hg : goodB P[k] x.m = r := by
                  cases hg : goodB P[k] x.m with
                  | true => exact (hr.2 ⟨hs, .inr ⟨k, _, hk, hy, hg⟩⟩).symm
                  | false =>
                    cases r with
                    | false => rfl
                    | true =>
                      rcases (hr.1 rfl).2 with h | ⟨k', y, h, hy', hg'⟩
                      · exact absurd h h6
                      · have : k' = k := by omega
                        subst this
                        rw [hy] at hy'
                        cases hy'
                        rw [hg] at hg'
                        cases hg'
                exact sStd_y3 A n c P ad x w C0 h1 h2 h3 h4 h5 P[k] k r X hl hk hy (hP k _ hy) hg hn
      · rw [hf _ rfl (by unfold stdB; simp [h3])]; exact sStd_n3 A n c ad x w C0 h1 h2 h3
theorem nms_mem {P : List Sdv} {s : ByteArray} : s ∈ nms P ↔ ∃ (j : Nat) (y : Sdv), P[j]? = some y ∧ y.nm = s := by
  unfold nms
  rw [List.mem_map]
  constructor
  · rintro ⟨y, hy, rfl⟩
    obtain ⟨j, hj, rfl⟩ := List.getElem_of_mem hy
    exact ⟨j, _, List.getElem?_eq_getElem hj, rfl⟩
  · rintro ⟨j, y, hy, rfl⟩
    exact ⟨y, List.mem_of_getElem? hy, rfl⟩
theorem bFalse {r : Bool} {p : Prop} (hr : r = true ↔ p) (h : ¬ p) : r = false := by
  cases r with
  | false => rfl
  | true => exact absurd (hr.1 rfl) h
noncomputable def stdR (P : List Sdv) (x : Sdv) : Bool := @decide (stdB x = true ∧ fromP P x) (Classical.propDecidable _)
theorem stdR_iff (P : List Sdv) (x : Sdv) : stdR P x = true ↔ stdB x = true ∧ fromP P x := by
  unfold stdR
  simp
theorem eqlN (a b : ByteArray) (r : Bool) (h : (a == b) = r) : (a.toList == b.toList) = r := by
  rw [← beq_toListBytes]
  exact h
theorem ch_len {L : List Sdv} (h : chP L) : L.length ≤ 30 := by
  have := ch_30 (k := L.length) (Nat.le_refl _) fun j x _ hx => h j x hx
  rwa [List.take_length] at this
set_option maxRecDepth 20000 in
set_option maxHeartbeats 400000 in
theorem sOk_big (A : Option Addr) (n c : Nat) (w : World) (h : 30 < n) :
    Calls Tryd.prog 32 #[.slice A n c] w fun e w' => e = .returned (.bool false) ∧ Gr w w' := by
  go_enter Tryd.func32, Tryd.ntmps32
  go_wp2_with fail
  go_ret
  exact ⟨rfl, Gr.refl _⟩
set_option maxRecDepth 20000 in
set_option maxHeartbeats 2000000 in
theorem sOk (A : Option Addr) (n c : Nat) (xs : List Sdv) (r : Bool) (w : World) (X : Hid (RdSd w A xs)) (hl : xs.length = n) (hn : n ≤ 30) (hc : n ≤ c) (hr : r = true ↔ chP xs) :
    Calls Tryd.prog 32 #[.slice A n c] w fun e w' => e = .returned (.bool r) ∧ Gr w w' := by
  have HR := hid hr; have HL := hid hl; clear hr hl
  go_enter Tryd.func32, Tryd.ntmps32
  go_wp2_with fail
  go_loopw [3] (fun u wr => ∃ (k : Nat), u = .int .i64 (k : Int) ∧ k ≤ n ∧ Gr w wr ∧ ∀ (j : Nat) (x : Sdv), j < k → xs[j]? = some x → stepP (xs.take j) x) (fun u _ => n - (intOf u).toNat)
  case atStart => exact ⟨0, rfl, by omega, Gr.refl _, fun j x hj => by omega⟩
  case round =>
    obtain ⟨k, rfl, hk, hg, hst⟩ := hrel
    have GW := hid hg; have ST := hid hst
    clear hg hst
    by_cases hlt : k < n
    · obtain ⟨x, hp⟩ : ∃ p, xs[k]? = some p := ⟨xs[k]'(by rw [HL.out]; exact hlt), List.getElem?_eq_getElem _⟩
      obtain ⟨ad, rfl, c1⟩ := (X.out.keep GW.out) k x hp
      have CX := hid c1; have HP := hid hp
      have hS := hid (ch_sound ST.out)
      have hlk := hid (show (xs.take k).length = k by rw [List.length_take, HL.out]; omega)
      clear c1 hp
      have hno : Hid (¬ stepP (xs.take k) x → r = false) := hid fun h => bFalse HR.out fun hc => h (hc k x HP.out)
      cases h1 : nmB x.nm 12 with
      | false =>
        have H1 := hid h1
        have hrf := hno.out fun h => by
          have := h.2.1
          rw [sound_std, H1.out] at this
          cases this
        subst hrf
        clear h1 hno
        go_wp2_with fail
        refine wp_reg0 16 (by kernel_rfl) (by kernel_rfl) ?_
        apply Exists.intro
        refine ⟨fun wb hb => ?_, ?_⟩
        · have _ := hb.atF CX.out.h0
          simp only [headOps, List.contains, List.elem, reduceIte, Bool.false_eq_true]
          repeat (first | go_big_quiet_step (first | (go_at_call 57; exact Calls.of_gr (sName_is x.nm false _ H1.out))) | quiet_step (fail))
          exact wpQuiet_nil rfl
        intro w1 hg1
        have G1 := hid (GW.out.trans hg1)
        clear hg1
        go_wp2_with fail
        go_ret
        exact ⟨rfl, G1.out⟩
      | true =>
        have H1 := hid h1; clear h1
        have HS := hid fun (q : Bool) (hq : q = true ↔ stdB x = true ∧ fromP (xs.take k) x) (w' : World) (hg : Gr wr w') => sStd (some ad) k c (xs.take k) (ad.add (k * 10)) x q w' (hid (CX.out.keep hg)) (hid (((X.out.keep GW.out).keep hg).take k)) hlk.out (by omega) hS.out hq
        cases h2 : stdR (xs.take k) x with
        | false =>
          have H2 := hid h2
          have hrf := hno.out fun h => by
            have h3 := (stdR_iff (xs.take k) x).2 ⟨by have := h.2.1; rw [sound_std, H1.out] at this; simpa using this, h.2.2.2⟩
            rw [H2.out] at h3
            cases h3
          have HT := hid (HS.out false (by rw [← H2.out]; exact stdR_iff _ _))
          subst hrf
          clear h2 hno
          go_wp2_with fail
          refine wp_reg0 16 (by kernel_rfl) (by kernel_rfl) ?_
          apply Exists.intro
          refine ⟨fun wb hb => ?_, ?_⟩
          · have _ := hb.atF CX.out.h0
            simp only [headOps, List.contains, List.elem, reduceIte, Bool.false_eq_true]
            repeat (first | go_big_quiet_step (first | (go_at_call 57; exact Calls.of_gr (sName_is x.nm true _ H1.out)) | (go_at_call 58; exact Calls.of_gr (HT.out _ (gr_inC hb)))) | quiet_step (fail))
            exact wpQuiet_nil rfl
          intro w1 hg1
          have G1 := hid (GW.out.trans hg1)
          clear hg1
          go_wp2_with fail
          go_ret
          exact ⟨rfl, G1.out⟩
        | true =>
          have HT := hid (HS.out true ⟨fun _ => (stdR_iff (xs.take k) x).1 h2, fun _ => rfl⟩)
          have hsf := (stdR_iff (xs.take k) x).1 h2
          have HSF := hid hsf
          clear h2 hsf
          go_wp2_with fail
          refine wp_reg0 16 (by kernel_rfl) (by kernel_rfl) ?_
          apply Exists.intro
          refine ⟨fun wb hb => ?_, ?_⟩
          · have _ := hb.atF CX.out.h0
            simp only [headOps, List.contains, List.elem, reduceIte, Bool.false_eq_true]
            repeat (first | go_big_quiet_step (first | (go_at_call 57; exact Calls.of_gr (sName_is x.nm true _ H1.out)) | (go_at_call 58; exact Calls.of_gr (HT.out _ (gr_inC hb)))) | quiet_step (fail))
            exact wpQuiet_nil rfl
          intro w1 hg1
          have G1 := hid (GW.out.trans hg1)
          clear hg1
          go_wp2_with fail
          obtain ⟨wo, hwo⟩ : ∃ wo, wo = wr := ⟨_, rfl⟩
          subst hwo
          go_loopw [4] (fun u wr => ∃ (j : Nat), u = .int .i64 (j : Int) ∧ j ≤ k ∧ Gr w wr ∧ ∀ (i : Nat) (y : Sdv), i < j → xs[i]? = some y → y.nm ≠ x.nm) (fun u _ => k - (intOf u).toNat)
          case atStart => exact ⟨0, rfl, by omega, G1.out, fun i y hi => by omega⟩
          case round =>
            obtain ⟨j, rfl, hj, hg, hne⟩ := hrel
            have GJ := hid hg; have NE := hid hne
            clear hg hne
            by_cases hjk : j < k
            · obtain ⟨y, hy⟩ : ∃ p, xs[j]? = some p := ⟨xs[j]'(by rw [HL.out]; omega), List.getElem?_eq_getElem _⟩
              obtain ⟨ad', e', cy⟩ := (X.out.keep GJ.out) j y hy
              cases e'
              obtain ⟨ad', e', cx⟩ := (X.out.keep GJ.out) k x HP.out
              cases e'
              have HY := hid hy
              have _ := cy.h0
              have _ := cx.h0
              have hjn : j < n := by omega
              clear cy cx hy
              cases he : (y.nm == x.nm) with
              | true =>
                have HE := hid ((strEqN _ _).1 he)
                have hrf := hno.out fun h => h.2.2.1 (nms_mem.2 ⟨j, y, by rw [List.getElem?_take, if_pos hjk]; exact HY.out, HE.out⟩)
                subst hrf
                have hq := eqlN _ _ _ he
                clear hno he
                go_wp2_with fail
                go_quiet (fail)
                go_wp2_with fail
                go_ret
                exact ⟨rfl, GJ.out.trans (Gr.drewN _ _)⟩
              | false =>
                have HE : Hid (y.nm ≠ x.nm) := hid fun h => by rw [(strEqN _ _).2 h] at he; cases he
                have hq := eqlN _ _ _ he
                clear he
                go_wp2_with fail
                go_quiet (fail)
                go_wp2_with fail
                refine ⟨⟨j + 1, by simp, by omega, GJ.out.trans (Gr.drewN _ _), fun i z hi hz => ?_⟩, by simp [intOf]; omega⟩
                by_cases hij : i < j
                · exact NE.out i z hij hz
                · have : i = j := by omega
                  subst this
                  rw [HY.out] at hz
                  cases hz
                  exact HE.out
            · have hje : j = k := by omega
              subst hje
              go_wp2_with fail
              refine ⟨⟨j + 1, by simp, by omega, GJ.out, fun i z hi hz => ?_⟩, by simp [intOf]; omega⟩
              by_cases hij : i < j
              · exact ST.out i z hij hz
              · have : i = j := by omega
                subst this
                rw [HP.out] at hz
                cases hz
                refine ⟨by rw [hlk.out]; omega, by rw [sound_std, H1.out, HSF.out.1]; rfl, fun hm => ?_, HSF.out.2⟩
                obtain ⟨a, y, ha, hb⟩ := nms_mem.1 hm
                rw [List.getElem?_take] at ha
                split at ha
                · rename_i hai
                  exact NE.out a y hai ha hb
                · cases ha
    · have hke : k = n := by omega
      subst hke
      have hrt : r = true := HR.out.2 fun j y hy => ST.out j y (by have := (List.getElem?_eq_some_iff.1 hy).1; have := HL.out; omega) hy
      subst hrt
      go_wp2_with fail
      go_ret
      exact ⟨rfl, GW.out⟩
end Go.Proofs.YtadpoocafhddeaaDoor
