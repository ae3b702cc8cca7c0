/- CHAINS: what a valid standard is, of the program and of the reference. -/
import Derived.Test.YtadpoocafhddeaaDoorSd
import Derived.Test.YtadpoocafhddeaaDoorSx
import Derived.Test.YtadpoocafhddeaaDoorNm
import Derived.Test.YtadpoocafhddeaaDoorS
import Derived.Test.YtadpoocafhddeaaDoorB1
namespace Go.Proofs.YtadpoocafhddeaaDoor
open Go.RowKit Go.Sort

def dayB (d : Int) : Bool := inB d 0 100000
def goodB (x : Sdv) (d : Int) : Bool := decide (x.m ≤ d) && decide (d ≤ x.m + x.g)
def soundB (x : Sdv) : Bool := nmB x.nm 12 && (spB x.a x.b x.c x.d && (okB x.p x.q && (decide (0 ≤ x.p) && (dayB x.m && dayB x.g))))
theorem day_bd {d : Int} (h : dayB d = true) : 0 ≤ d ∧ d ≤ 100000 := by unfold dayB inB at h; simpa using h
theorem sound_parts {x : Sdv} (h : soundB x = true) : nmB x.nm 12 = true ∧ spB x.a x.b x.c x.d = true ∧ okB x.p x.q = true ∧ 0 ≤ x.p ∧ dayB x.m = true ∧ dayB x.g = true := by
  unfold soundB at h
  simpa using h
theorem sound_bd {x : Sdv} (h : soundB x = true) : 0 ≤ x.m ∧ x.m ≤ 100000 ∧ 0 ≤ x.g ∧ x.g ≤ 100000 := by
  obtain ⟨_, _, _, _, h1, h2⟩ := sound_parts h
  have := day_bd h1; have := day_bd h2
  omega
/-! the program -/
set_option maxRecDepth 20000 in
set_option maxHeartbeats 400000 in
theorem iDay (d : Int) (w : World) : Calls Tryd.prog 42 #[.int .i64 d] w fun e w' => e = .returned (.bool (dayB d)) ∧ Gr w w' := by
  unfold dayB inB
  by_cases h1 : 0 ≤ d
  · by_cases h2 : d ≤ 100000
    · rw [decide_eq_true h1, decide_eq_true h2]
      go_enter Tryd.func42, Tryd.ntmps42
      go_wp2
      go_ret
      exact ⟨rfl, Gr.refl _⟩
    · rw [decide_eq_true h1, decide_eq_false h2]
      go_enter Tryd.func42, Tryd.ntmps42
      go_wp2
      go_ret
      exact ⟨rfl, Gr.refl _⟩
  · rw [decide_eq_false h1]
    go_enter Tryd.func42, Tryd.ntmps42
    go_wp2
    go_ret
    exact ⟨rfl, Gr.refl _⟩
theorem iDay_is (d : Int) (r : Bool) (w : World) (h : dayB d = r) : Calls Tryd.prog 42 #[.int .i64 d] w fun e w' => e = .returned (.bool r) ∧ Gr w w' := h ▸ iDay d w
theorem iSpan_is (a b c d : Int) (r : Bool) (w : World) (h : spB a b c d = r) : Calls Tryd.prog 106 #[sp a b c d] w fun e w' => e = .returned (.bool r) ∧ Gr w w' := by
  cases r with
  | true => exact iSpan_t a b c d w h
  | false => exact iSpan_f a b c d w h
theorem iFrac_is (p q : Int) (r : Bool) (w : World) (h : okB p q = r) : Calls Tryd.prog 107 #[fr p q] w fun e w' => e = .returned (.bool r) ∧ Gr w w' := by
  cases r with
  | true => exact iok_t p q w h
  | false => exact iok_f p q w h
set_option maxRecDepth 20000 in
set_option maxHeartbeats 1000000 in
theorem iSound_n1 (x : Sdv) (w : World) (h1 : nmB x.nm 12 = false) :
    Calls Tryd.prog 99 #[vSd x] w fun e w' => e = .returned (.bool false) ∧ Gr w w' := by
  have H1 := hid h1; clear h1
  go_enter Tryd.func99, Tryd.ntmps99
  go_wp2_with fail
  refine (iName_is x.nm false _ H1.out).mono ?_
  rintro e w1 ⟨rfl, hg1⟩
  obtain ⟨x1_0, hz1, g1⟩ := alloc1 hg1
  obtain ⟨_, _, _, _, _, _, _, _, _, _⟩ := cells10 x1_0
  have _ := fz x1_0
  have _ := ltb x1_0
  have X1_0 := hid x1_0; clear x1_0
  have G1 := hid (g1)
  clear hg1 g1
  go_wp2
  go_ret
  exact ⟨rfl, G1.out⟩
set_option maxRecDepth 20000 in
set_option maxHeartbeats 1000000 in
theorem iSound_n2 (x : Sdv) (w : World) (h1 : nmB x.nm 12 = true) (h2 : spB x.a x.b x.c x.d = false) :
    Calls Tryd.prog 99 #[vSd x] w fun e w' => e = .returned (.bool false) ∧ Gr w w' := by
  have H1 := hid h1; have H2 := hid h2; clear h1 h2
  go_enter Tryd.func99, Tryd.ntmps99
  go_wp2_with fail
  refine (iName_is x.nm true _ H1.out).mono ?_
  rintro e w1 ⟨rfl, hg1⟩
  obtain ⟨x1_0, hz1, g1⟩ := alloc1 hg1
  obtain ⟨_, _, _, _, _, _, _, _, _, _⟩ := cells10 x1_0
  have _ := fz x1_0
  have _ := ltb x1_0
  have X1_0 := hid x1_0; clear x1_0
  have G1 := hid (g1)
  clear hg1 g1
  go_wp2_with fail
  refine (iSpan_is x.a x.b x.c x.d false _ H2.out).mono ?_
  rintro e w2 ⟨rfl, hg2⟩
  have x2_1 := hg2.keep X1_0.out
  obtain ⟨_, _, _, _, _, _, _, _, _, _⟩ := cells10 x2_1
  have _ := fz x2_1
  have _ := ltb x2_1
  have X2_1 := hid x2_1; clear x2_1
  have G2 := hid (G1.out.trans hg2)
  clear hg2
  go_wp2
  go_ret
  exact ⟨rfl, G2.out⟩
set_option maxRecDepth 20000 in
set_option maxHeartbeats 1000000 in
theorem iSound_n3 (x : Sdv) (w : World) (h1 : nmB x.nm 12 = true) (h2 : spB x.a x.b x.c x.d = true) (h3 : okB x.p x.q = false) :
    Calls Tryd.prog 99 #[vSd x] w fun e w' => e = .returned (.bool false) ∧ Gr w w' := by
  have H1 := hid h1; have H2 := hid h2; have H3 := hid h3; clear h1 h2 h3
  go_enter Tryd.func99, Tryd.ntmps99
  go_wp2_with fail
  refine (iName_is x.nm true _ H1.out).mono ?_
  rintro e w1 ⟨rfl, hg1⟩
  obtain ⟨x1_0, hz1, g1⟩ := alloc1 hg1
  obtain ⟨_, _, _, _, _, _, _, _, _, _⟩ := cells10 x1_0
  have _ := fz x1_0
  have _ := ltb x1_0
  have X1_0 := hid x1_0; clear x1_0
  have G1 := hid (g1)
  clear hg1 g1
  go_wp2_with fail
  refine (iSpan_is x.a x.b x.c x.d true _ H2.out).mono ?_
  rintro e w2 ⟨rfl, hg2⟩
  have x2_1 := hg2.keep X1_0.out
  obtain ⟨_, _, _, _, _, _, _, _, _, _⟩ := cells10 x2_1
  have _ := fz x2_1
  have _ := ltb x2_1
  have X2_1 := hid x2_1; clear x2_1
  have G2 := hid (G1.out.trans hg2)
  clear hg2
  go_wp2_with fail
  refine (iFrac_is x.p x.q false _ H3.out).mono ?_
  rintro e w3 ⟨rfl, hg3⟩
  have x3_1 := hg3.keep X2_1.out
  obtain ⟨_, _, _, _, _, _, _, _, _, _⟩ := cells10 x3_1
  have _ := fz x3_1
  have _ := ltb x3_1
  have X3_1 := hid x3_1; clear x3_1
  have G3 := hid (G2.out.trans hg3)
  clear hg3
  go_wp2
  go_ret
  exact ⟨rfl, G3.out⟩
set_option maxRecDepth 20000 in
set_option maxHeartbeats 1000000 in
theorem iSound_n4 (x : Sdv) (w : World) (h1 : nmB x.nm 12 = true) (h2 : spB x.a x.b x.c x.d = true) (h3 : okB x.p x.q = true) (h4 : ¬ 0 ≤ x.p) :
    Calls Tryd.prog 99 #[vSd x] w fun e w' => e = .returned (.bool false) ∧ Gr w w' := by
  have H1 := hid h1; have H2 := hid h2; have H3 := hid h3; clear h1 h2 h3
  go_enter Tryd.func99, Tryd.ntmps99
  go_wp2_with fail
  refine (iName_is x.nm true _ H1.out).mono ?_
  rintro e w1 ⟨rfl, hg1⟩
  obtain ⟨x1_0, hz1, g1⟩ := alloc1 hg1
  obtain ⟨_, _, _, _, _, _, _, _, _, _⟩ := cells10 x1_0
  have _ := fz x1_0
  have _ := ltb x1_0
  have X1_0 := hid x1_0; clear x1_0
  have G1 := hid (g1)
  clear hg1 g1
  go_wp2_with fail
  refine (iSpan_is x.a x.b x.c x.d true _ H2.out).mono ?_
  rintro e w2 ⟨rfl, hg2⟩
  have x2_1 := hg2.keep X1_0.out
  obtain ⟨_, _, _, _, _, _, _, _, _, _⟩ := cells10 x2_1
  have _ := fz x2_1
  have _ := ltb x2_1
  have X2_1 := hid x2_1; clear x2_1
  have G2 := hid (G1.out.trans hg2)
  clear hg2
  go_wp2_with fail
  refine (iFrac_is x.p x.q true _ H3.out).mono ?_
  rintro e w3 ⟨rfl, hg3⟩
  have x3_1 := hg3.keep X2_1.out
  obtain ⟨_, _, _, _, _, _, _, _, _, _⟩ := cells10 x3_1
  have _ := fz x3_1
  have _ := ltb x3_1
  have X3_1 := hid x3_1; clear x3_1
  have G3 := hid (G2.out.trans hg3)
  clear hg3
  go_wp2
  go_ret
  exact ⟨rfl, G3.out⟩
set_option maxRecDepth 20000 in
set_option maxHeartbeats 1000000 in
theorem iSound_n5 (x : Sdv) (w : World) (h1 : nmB x.nm 12 = true) (h2 : spB x.a x.b x.c x.d = true) (h3 : okB x.p x.q = true) (h4 : 0 ≤ x.p) (h5 : dayB x.m = false) :
    Calls Tryd.prog 99 #[vSd x] w fun e w' => e = .returned (.bool false) ∧ Gr w w' := by
  have H1 := hid h1; have H2 := hid h2; have H3 := hid h3; have H5 := hid h5; clear h1 h2 h3 h5
  go_enter Tryd.func99, Tryd.ntmps99
  go_wp2_with fail
  refine (iName_is x.nm true _ H1.out).mono ?_
  rintro e w1 ⟨rfl, hg1⟩
  obtain ⟨x1_0, hz1, g1⟩ := alloc1 hg1
  obtain ⟨_, _, _, _, _, _, _, _, _, _⟩ := cells10 x1_0
  have _ := fz x1_0
  have _ := ltb x1_0
  have X1_0 := hid x1_0; clear x1_0
  have G1 := hid (g1)
  clear hg1 g1
  go_wp2_with fail
  refine (iSpan_is x.a x.b x.c x.d true _ H2.out).mono ?_
  rintro e w2 ⟨rfl, hg2⟩
  have x2_1 := hg2.keep X1_0.out
  obtain ⟨_, _, _, _, _, _, _, _, _, _⟩ := cells10 x2_1
  have _ := fz x2_1
  have _ := ltb x2_1
  have X2_1 := hid x2_1; clear x2_1
  have G2 := hid (G1.out.trans hg2)
  clear hg2
  go_wp2_with fail
  refine (iFrac_is x.p x.q true _ H3.out).mono ?_
  rintro e w3 ⟨rfl, hg3⟩
  have x3_1 := hg3.keep X2_1.out
  obtain ⟨_, _, _, _, _, _, _, _, _, _⟩ := cells10 x3_1
  have _ := fz x3_1
  have _ := ltb x3_1
  have X3_1 := hid x3_1; clear x3_1
  have G3 := hid (G2.out.trans hg3)
  clear hg3
  go_wp2_with fail
  refine (iDay_is x.m false _ H5.out).mono ?_
  rintro e w4 ⟨rfl, hg4⟩
  have x4_1 := hg4.keep X3_1.out
  obtain ⟨_, _, _, _, _, _, _, _, _, _⟩ := cells10 x4_1
  have _ := fz x4_1
  have _ := ltb x4_1
  have X4_1 := hid x4_1; clear x4_1
  have G4 := hid (G3.out.trans hg4)
  clear hg4
  go_wp2
  go_ret
  exact ⟨rfl, G4.out⟩
set_option maxRecDepth 20000 in
set_option maxHeartbeats 1000000 in
theorem iSound_y (x : Sdv) (r : Bool) (w : World) (h1 : nmB x.nm 12 = true) (h2 : spB x.a x.b x.c x.d = true) (h3 : okB x.p x.q = true) (h4 : 0 ≤ x.p) (h5 : dayB x.m = true) (h6 : dayB x.g = r) :
    Calls Tryd.prog 99 #[vSd x] w fun e w' => e = .returned (.bool r) ∧ Gr w w' := by
  have H1 := hid h1; have H2 := hid h2; have H3 := hid h3; have H5 := hid h5; have H6 := hid h6; clear h1 h2 h3 h5 h6
  go_enter Tryd.func99, Tryd.ntmps99
  go_wp2_with fail
  refine (iName_is x.nm true _ H1.out).mono ?_
  rintro e w1 ⟨rfl, hg1⟩
  obtain ⟨x1_0, hz1, g1⟩ := alloc1 hg1
  obtain ⟨_, _, _, _, _, _, _, _, _, _⟩ := cells10 x1_0
  have _ := fz x1_0
  have _ := ltb x1_0
  have X1_0 := hid x1_0; clear x1_0
  have G1 := hid (g1)
  clear hg1 g1
  go_wp2_with fail
  refine (iSpan_is x.a x.b x.c x.d true _ H2.out).mono ?_
  rintro e w2 ⟨rfl, hg2⟩
  have x2_1 := hg2.keep X1_0.out
  obtain ⟨_, _, _, _, _, _, _, _, _, _⟩ := cells10 x2_1
  have _ := fz x2_1
  have _ := ltb x2_1
  have X2_1 := hid x2_1; clear x2_1
  have G2 := hid (G1.out.trans hg2)
  clear hg2
  go_wp2_with fail
  refine (iFrac_is x.p x.q true _ H3.out).mono ?_
  rintro e w3 ⟨rfl, hg3⟩
  have x3_1 := hg3.keep X2_1.out
  obtain ⟨_, _, _, _, _, _, _, _, _, _⟩ := cells10 x3_1
  have _ := fz x3_1
  have _ := ltb x3_1
  have X3_1 := hid x3_1; clear x3_1
  have G3 := hid (G2.out.trans hg3)
  clear hg3
  go_wp2_with fail
  refine (iDay_is x.m true _ H5.out).mono ?_
  rintro e w4 ⟨rfl, hg4⟩
  have x4_1 := hg4.keep X3_1.out
  obtain ⟨_, _, _, _, _, _, _, _, _, _⟩ := cells10 x4_1
  have _ := fz x4_1
  have _ := ltb x4_1
  have X4_1 := hid x4_1; clear x4_1
  have G4 := hid (G3.out.trans hg4)
  clear hg4
  go_wp2_with fail
  refine (iDay_is x.g r _ H6.out).mono ?_
  rintro e w5 ⟨rfl, hg5⟩
  have x5_1 := hg5.keep X4_1.out
  obtain ⟨_, _, _, _, _, _, _, _, _, _⟩ := cells10 x5_1
  have _ := fz x5_1
  have _ := ltb x5_1
  have X5_1 := hid x5_1; clear x5_1
  have G5 := hid (G4.out.trans hg5)
  clear hg5
  go_wp2
  go_ret
  exact ⟨rfl, G5.out⟩
theorem iSound (x : Sdv) (w : World) :
    Calls Tryd.prog 99 #[vSd x] w fun e w' => e = .returned (.bool (soundB x)) ∧ Gr w w' := by
  unfold soundB
  cases h1 : nmB x.nm 12 with
  | false => exact iSound_n1 x w h1
  | true =>
    cases h2 : spB x.a x.b x.c x.d with
    | false => exact iSound_n2 x w h1 h2
    | true =>
      cases h3 : okB x.p x.q with
      | false => exact iSound_n3 x w h1 h2 h3
      | true =>
        by_cases h4 : 0 ≤ x.p
        · rw [decide_eq_true h4]
          cases h5 : dayB x.m with
          | false => exact iSound_n5 x w h1 h2 h3 h4 h5
          | true => exact iSound_y x _ w h1 h2 h3 h4 h5 rfl
        · rw [decide_eq_false h4]
          exact iSound_n4 x w h1 h2 h3 h4
theorem iSound_is (x : Sdv) (r : Bool) (w : World) (h : soundB x = r) : Calls Tryd.prog 99 #[vSd x] w fun e w' => e = .returned (.bool r) ∧ Gr w w' := h ▸ iSound x w
set_option maxRecDepth 20000 in
set_option maxHeartbeats 400000 in
theorem iGoodOn (x : Sdv) (d : Int) (w : World) (hs : soundB x = true) :
    Calls Tryd.prog 43 #[vSd x, .int .i64 d] w fun e w' => e = .returned (.bool (goodB x d)) ∧ Gr w w' := by
  obtain ⟨m1, m2, g1, g2⟩ := sound_bd hs
  clear hs
  unfold goodB
  by_cases h1 : x.m ≤ d
  · by_cases h2 : d ≤ x.m + x.g
    · rw [decide_eq_true h1, decide_eq_true h2]
      go_enter Tryd.func43, Tryd.ntmps43
      go_wp2
      go_ret
      exact ⟨rfl, ((Gr.refl _).al _).al _⟩
    · rw [decide_eq_true h1, decide_eq_false h2]
      go_enter Tryd.func43, Tryd.ntmps43
      go_wp2
      go_ret
      exact ⟨rfl, ((Gr.refl _).al _).al _⟩
  · rw [decide_eq_false h1]
    go_enter Tryd.func43, Tryd.ntmps43
    go_wp2
    go_ret
    exact ⟨rfl, (Gr.refl _).al _⟩
theorem iGoodOn_is (x : Sdv) (d : Int) (r : Bool) (w : World) (hs : soundB x = true) (h : goodB x d = r) :
    Calls Tryd.prog 43 #[vSd x, .int .i64 d] w fun e w' => e = .returned (.bool r) ∧ Gr w w' := h ▸ iGoodOn x d w hs
/-- An index: its standards, and their places by their names. -/
abbrev idxV (A : Option Addr) (n c m : Nat) : Value := .agg #[.slice A n c, .map (some m)]
def hasB (n : Nat) (i : Int) : Bool := decide (0 ≤ i) && decide (i < (n : Int))
set_option maxRecDepth 20000 in
set_option maxHeartbeats 400000 in
theorem iHas (A : Option Addr) (n c m : Nat) (i : Int) (w : World) :
    Calls Tryd.prog 41 #[idxV A n c m, .int .i64 i] w fun e w' => e = .returned (.bool (hasB n i)) ∧ Gr w w' := by
  unfold hasB
  by_cases h1 : 0 ≤ i
  · by_cases h2 : i < (n : Int)
    · rw [decide_eq_true h1, decide_eq_true h2]
      go_enter Tryd.func41, Tryd.ntmps41
      go_wp2
      go_ret
      exact ⟨rfl, (Gr.refl _).al _⟩
    · rw [decide_eq_true h1, decide_eq_false h2]
      go_enter Tryd.func41, Tryd.ntmps41
      go_wp2
      go_ret
      exact ⟨rfl, (Gr.refl _).al _⟩
  · rw [decide_eq_false h1]
    go_enter Tryd.func41, Tryd.ntmps41
    go_wp2
    go_ret
    exact ⟨rfl, (Gr.refl _).al _⟩
theorem iHas_is (A : Option Addr) (n c m : Nat) (i : Int) (r : Bool) (w : World) (h : hasB n i = r) :
    Calls Tryd.prog 41 #[idxV A n c m, .int .i64 i] w fun e w' => e = .returned (.bool r) ∧ Gr w w' := h ▸ iHas A n c m i w
end Go.Proofs.YtadpoocafhddeaaDoor
