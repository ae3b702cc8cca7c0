/- BENCHES: what a valid thing is, of both sides. -/
import Derived.Test.YtflfjedimcbfeaaTg
import Derived.Test.YtflfjedimcbfeaaMb
import Derived.Test.YtflfjedimcbfeaaNm
import Derived.Test.YtflfjedimcbfeaaSkf
import Derived.Test.YtflfjedimcbfeaaX1
namespace Go.Proofs.Ytflfjedimcbfeaa
open Go.RowKit Go.Sort

def grB (p q : Int) : Bool := okB p q && (decide (0 ≤ p) && decide (p * 1000 ≤ q))
def lenB (p q : Int) : Bool := decide (0 < p) && decide (p ≤ 100000 * q)
def tgB (x : Tgv) : Bool := nmB x.nm 12 && (okB x.p x.q && (lenB x.p x.q && grB x.a x.b))
theorem iFracOk (p q : Int) (r : Bool) (w : World) (h : okB p q = r) : Calls Try.prog 54 #[fr p q] w fun e w' => e = .returned (.bool r) ∧ Gr w w' := by
  cases r with
  | true => exact iok_t p q w h
  | false => exact iok_f p q w h
set_option maxRecDepth 20000 in
set_option maxHeartbeats 600000 in
theorem iGrowth (p q : Int) (w : World) : Calls Try.prog 41 #[fr p q] w fun e w' => e = .returned (.bool (grB p q)) ∧ Gr w w' := by
  unfold grB
  cases h : okB p q with
  | false =>
    have H := hid h; clear h
    go_enter Try.func41, Try.ntmps41
    go_wp2_with fail
    refine (iFracOk p q false _ H.out).mono ?_
    rintro e w1 ⟨rfl, hg1⟩
    obtain ⟨x1_0, hz1, g1⟩ := alloc1 hg1
    obtain ⟨_, _⟩ := cells2 x1_0
    have _ := fz x1_0
    have _ := ltb x1_0
    have X1_0 := hid x1_0; clear x1_0
    have G1 := hid (g1)
    clear hg1 g1
    go_wp2
    go_ret
    exact ⟨ret_bool (by simp), G1.out⟩
  | true =>
    have H := hid h
    obtain ⟨h1, h2, h3, h4⟩ := okB_bd h
    clear h
    by_cases g1 : 0 ≤ p
    · rw [decide_eq_true g1]
      by_cases g2 : p * 1000 ≤ q
      · rw [decide_eq_true g2]
        go_enter Try.func41, Try.ntmps41
        go_wp2_with fail
        refine (iFracOk p q true _ H.out).mono ?_
        rintro e w1 ⟨rfl, hg1⟩
        obtain ⟨x1_0, hz1, g1⟩ := alloc1 hg1
        obtain ⟨_, _⟩ := cells2 x1_0
        have _ := fz x1_0
        have _ := ltb x1_0
        have X1_0 := hid x1_0; clear x1_0
        have G1 := hid (g1)
        clear hg1 g1
        go_wp2
        go_ret
        exact ⟨ret_bool (by simp), G1.out⟩
      · rw [decide_eq_false g2]
        go_enter Try.func41, Try.ntmps41
        go_wp2_with fail
        refine (iFracOk p q true _ H.out).mono ?_
        rintro e w1 ⟨rfl, hg1⟩
        obtain ⟨x1_0, hz1, g1⟩ := alloc1 hg1
        obtain ⟨_, _⟩ := cells2 x1_0
        have _ := fz x1_0
        have _ := ltb x1_0
        have X1_0 := hid x1_0; clear x1_0
        have G1 := hid (g1)
        clear hg1 g1
        go_wp2
        go_ret
        exact ⟨ret_bool (by simp [g2]), G1.out⟩
    · rw [decide_eq_false g1]
      go_enter Try.func41, Try.ntmps41
      go_wp2_with fail
      refine (iFracOk p q true _ H.out).mono ?_
      rintro e w1 ⟨rfl, hg1⟩
      obtain ⟨x1_0, hz1, g1⟩ := alloc1 hg1
      obtain ⟨_, _⟩ := cells2 x1_0
      have _ := fz x1_0
      have _ := ltb x1_0
      have X1_0 := hid x1_0; clear x1_0
      have G1 := hid (g1)
      clear hg1 g1
      go_wp2
      go_ret
      exact ⟨ret_bool (by simp), G1.out⟩
theorem iGrowth_is (p q : Int) (r : Bool) (w : World) (h : grB p q = r) : Calls Try.prog 41 #[fr p q] w fun e w' => e = .returned (.bool r) ∧ Gr w w' := h ▸ iGrowth p q w
set_option maxRecDepth 20000 in
set_option maxHeartbeats 600000 in
theorem iLen (p q : Int) (w : World) (h : okB p q = true) : Calls Try.prog 73 #[fr p q, .int .i64 100000] w fun e w' => e = .returned (.bool (lenB p q)) ∧ Gr w w' := by
  obtain ⟨b1, b2, b3, b4⟩ := okB_bd h
  exact iatmost p q 100000 w (by omega) (by omega)
theorem iLen_is (p q : Int) (r : Bool) (w : World) (h : okB p q = true) (hr : lenB p q = r) : Calls Try.prog 73 #[fr p q, .int .i64 100000] w fun e w' => e = .returned (.bool r) ∧ Gr w w' := hr ▸ iLen p q w h
set_option maxRecDepth 20000 in
set_option maxHeartbeats 1000000 in
theorem iThing_1 (x : Tgv) (w : World) (h1 : nmB x.nm 12 = false) : Calls Try.prog 42 #[vTg x] w fun e w' => e = .returned (.bool false) ∧ Gr w w' := by
  have H1 := hid h1; clear h1
  go_enter Try.func42, Try.ntmps42
  go_wp2_with fail
  refine (iName_is x.nm false _ H1.out).mono ?_
  rintro e w1 ⟨rfl, hg1⟩
  obtain ⟨x1_0, hz1, g1⟩ := alloc1 hg1
  obtain ⟨_, _, _, _, _⟩ := cells5 x1_0
  have _ := fz x1_0
  have _ := ltb x1_0
  have X1_0 := hid x1_0; clear x1_0
  have G1 := hid (g1)
  clear hg1 g1
  go_wp2
  go_ret
  exact ⟨rfl, G1.out⟩
set_option maxRecDepth 20000 in
set_option maxHeartbeats 1000000 in
theorem iThing_2 (x : Tgv) (w : World) (h1 : nmB x.nm 12 = true) (h2 : okB x.p x.q = false) : Calls Try.prog 42 #[vTg x] w fun e w' => e = .returned (.bool false) ∧ Gr w w' := by
  have H1 := hid h1; have H2 := hid h2; clear h1 h2
  go_enter Try.func42, Try.ntmps42
  go_wp2_with fail
  refine (iName_is x.nm true _ H1.out).mono ?_
  rintro e w1 ⟨rfl, hg1⟩
  obtain ⟨x1_0, hz1, g1⟩ := alloc1 hg1
  obtain ⟨_, _, _, _, _⟩ := cells5 x1_0
  have _ := fz x1_0
  have _ := ltb x1_0
  have X1_0 := hid x1_0; clear x1_0
  have G1 := hid (g1)
  clear hg1 g1
  go_wp2_with fail
  refine (iFracOk x.p x.q false _ H2.out).mono ?_
  rintro e w2 ⟨rfl, hg2⟩
  have x2_1 := hg2.keep X1_0.out
  obtain ⟨_, _, _, _, _⟩ := cells5 x2_1
  have _ := fz x2_1
  have _ := ltb x2_1
  have X2_1 := hid x2_1; clear x2_1
  have G2 := hid (G1.out.trans hg2)
  clear hg2
  go_wp2
  go_ret
  exact ⟨rfl, G2.out⟩
set_option maxRecDepth 20000 in
set_option maxHeartbeats 1000000 in
theorem iThing_3 (x : Tgv) (w : World) (h1 : nmB x.nm 12 = true) (h2 : okB x.p x.q = true) (h3 : lenB x.p x.q = false) : Calls Try.prog 42 #[vTg x] w fun e w' => e = .returned (.bool false) ∧ Gr w w' := by
  have H1 := hid h1; have H2 := hid h2; have H3 := hid h3; clear h1 h2 h3
  go_enter Try.func42, Try.ntmps42
  go_wp2_with fail
  refine (iName_is x.nm true _ H1.out).mono ?_
  rintro e w1 ⟨rfl, hg1⟩
  obtain ⟨x1_0, hz1, g1⟩ := alloc1 hg1
  obtain ⟨_, _, _, _, _⟩ := cells5 x1_0
  have _ := fz x1_0
  have _ := ltb x1_0
  have X1_0 := hid x1_0; clear x1_0
  have G1 := hid (g1)
  clear hg1 g1
  go_wp2_with fail
  refine (iFracOk x.p x.q true _ H2.out).mono ?_
  rintro e w2 ⟨rfl, hg2⟩
  have x2_1 := hg2.keep X1_0.out
  obtain ⟨_, _, _, _, _⟩ := cells5 x2_1
  have _ := fz x2_1
  have _ := ltb x2_1
  have X2_1 := hid x2_1; clear x2_1
  have G2 := hid (G1.out.trans hg2)
  clear hg2
  go_wp2_with fail
  refine (iLen_is x.p x.q false _ H2.out H3.out).mono ?_
  rintro e w3 ⟨rfl, hg3⟩
  have x3_1 := hg3.keep X2_1.out
  obtain ⟨_, _, _, _, _⟩ := cells5 x3_1
  have _ := fz x3_1
  have _ := ltb x3_1
  have X3_1 := hid x3_1; clear x3_1
  have G3 := hid (G2.out.trans hg3)
  clear hg3
  go_wp2
  go_ret
  exact ⟨rfl, G3.out⟩
set_option maxRecDepth 20000 in
set_option maxHeartbeats 1000000 in
theorem iThing_4 (x : Tgv) (r : Bool) (w : World) (h1 : nmB x.nm 12 = true) (h2 : okB x.p x.q = true) (h3 : lenB x.p x.q = true) (h4 : grB x.a x.b = r) : Calls Try.prog 42 #[vTg x] w fun e w' => e = .returned (.bool r) ∧ Gr w w' := by
  have H1 := hid h1; have H2 := hid h2; have H3 := hid h3; have H4 := hid h4; clear h1 h2 h3 h4
  go_enter Try.func42, Try.ntmps42
  go_wp2_with fail
  refine (iName_is x.nm true _ H1.out).mono ?_
  rintro e w1 ⟨rfl, hg1⟩
  obtain ⟨x1_0, hz1, g1⟩ := alloc1 hg1
  obtain ⟨_, _, _, _, _⟩ := cells5 x1_0
  have _ := fz x1_0
  have _ := ltb x1_0
  have X1_0 := hid x1_0; clear x1_0
  have G1 := hid (g1)
  clear hg1 g1
  go_wp2_with fail
  refine (iFracOk x.p x.q true _ H2.out).mono ?_
  rintro e w2 ⟨rfl, hg2⟩
  have x2_1 := hg2.keep X1_0.out
  obtain ⟨_, _, _, _, _⟩ := cells5 x2_1
  have _ := fz x2_1
  have _ := ltb x2_1
  have X2_1 := hid x2_1; clear x2_1
  have G2 := hid (G1.out.trans hg2)
  clear hg2
  go_wp2_with fail
  refine (iLen_is x.p x.q true _ H2.out H3.out).mono ?_
  rintro e w3 ⟨rfl, hg3⟩
  have x3_1 := hg3.keep X2_1.out
  obtain ⟨_, _, _, _, _⟩ := cells5 x3_1
  have _ := fz x3_1
  have _ := ltb x3_1
  have X3_1 := hid x3_1; clear x3_1
  have G3 := hid (G2.out.trans hg3)
  clear hg3
  go_wp2_with fail
  refine (iGrowth_is x.a x.b r _ H4.out).mono ?_
  rintro e w4 ⟨rfl, hg4⟩
  have x4_1 := hg4.keep X3_1.out
  obtain ⟨_, _, _, _, _⟩ := cells5 x4_1
  have _ := fz x4_1
  have _ := ltb x4_1
  have X4_1 := hid x4_1; clear x4_1
  have G4 := hid (G3.out.trans hg4)
  clear hg4
  go_wp2
  go_ret
  exact ⟨rfl, G4.out⟩
theorem iThing (x : Tgv) (r : Bool) (w : World) (hr : tgB x = r) : Calls Try.prog 42 #[vTg x] w fun e w' => e = .returned (.bool r) ∧ Gr w w' := by
  unfold tgB at hr
  cases h1 : nmB x.nm 12 with
  | false => rw [h1] at hr; simp at hr; subst hr; exact iThing_1 x w h1
  | true =>
    cases h2 : okB x.p x.q with
    | false => rw [h1, h2] at hr; simp at hr; subst hr; exact iThing_2 x w h1 h2
    | true =>
      cases h3 : lenB x.p x.q with
      | false => rw [h1, h2, h3] at hr; simp at hr; subst hr; exact iThing_3 x w h1 h2 h3
      | true => rw [h1, h2, h3] at hr; simp at hr; exact iThing_4 x r w h1 h2 h3 hr
/-! the reference -/
set_option maxRecDepth 20000 in
set_option maxHeartbeats 600000 in
theorem sGrows (p q : Int) (w : World) : Calls Try.prog 69 #[fr p q] w fun e w' => e = .returned (.bool (grB p q)) ∧ Gr w w' := by
  unfold grB
  cases h : okB p q with
  | false =>
    have H := hid h; clear h
    go_enter Try.func69, Try.ntmps69
    go_wp2_with fail
    refine (sok_f p q _ H.out).mono ?_
    rintro e w1 ⟨rfl, hg1⟩
    obtain ⟨x1_0, hz1, g1⟩ := alloc1 hg1
    obtain ⟨_, _⟩ := cells2 x1_0
    have _ := fz x1_0
    have _ := ltb x1_0
    have X1_0 := hid x1_0; clear x1_0
    have G1 := hid (g1)
    clear hg1 g1
    go_wp2
    go_ret
    exact ⟨ret_bool (by simp), G1.out⟩
  | true =>
    have H := hid h
    obtain ⟨h1, h2, h3, h4⟩ := okB_bd h
    clear h
    by_cases g1 : 0 ≤ p
    · rw [decide_eq_true g1]
      by_cases g2 : p * 1000 ≤ q
      · rw [decide_eq_true g2]
        have g3 : 1000 * p ≤ q := by omega
        go_enter Try.func69, Try.ntmps69
        go_wp2_with fail
        refine (sok_t p q _ H.out).mono ?_
        rintro e w1 ⟨rfl, hg1⟩
        obtain ⟨x1_0, hz1, g1⟩ := alloc1 hg1
        obtain ⟨_, _⟩ := cells2 x1_0
        have _ := fz x1_0
        have _ := ltb x1_0
        have X1_0 := hid x1_0; clear x1_0
        have G1 := hid (g1)
        clear hg1 g1
        go_wp2
        go_ret
        exact ⟨ret_bool (by simp), G1.out⟩
      · rw [decide_eq_false g2]
        have g3 : ¬ 1000 * p ≤ q := by omega
        go_enter Try.func69, Try.ntmps69
        go_wp2_with fail
        refine (sok_t p q _ H.out).mono ?_
        rintro e w1 ⟨rfl, hg1⟩
        obtain ⟨x1_0, hz1, g1⟩ := alloc1 hg1
        obtain ⟨_, _⟩ := cells2 x1_0
        have _ := fz x1_0
        have _ := ltb x1_0
        have X1_0 := hid x1_0; clear x1_0
        have G1 := hid (g1)
        clear hg1 g1
        go_wp2
        go_ret
        exact ⟨ret_bool (by simp [g3]), G1.out⟩
    · rw [decide_eq_false g1]
      go_enter Try.func69, Try.ntmps69
      go_wp2_with fail
      refine (sok_t p q _ H.out).mono ?_
      rintro e w1 ⟨rfl, hg1⟩
      obtain ⟨x1_0, hz1, g1⟩ := alloc1 hg1
      obtain ⟨_, _⟩ := cells2 x1_0
      have _ := fz x1_0
      have _ := ltb x1_0
      have X1_0 := hid x1_0; clear x1_0
      have G1 := hid (g1)
      clear hg1 g1
      go_wp2
      go_ret
      exact ⟨ret_bool (by simp), G1.out⟩
theorem sGrows_is (p q : Int) (r : Bool) (w : World) (h : grB p q = r) : Calls Try.prog 69 #[fr p q] w fun e w' => e = .returned (.bool r) ∧ Gr w w' := h ▸ sGrows p q w
set_option maxRecDepth 20000 in
set_option maxHeartbeats 1000000 in
theorem sName7 (s : ByteArray) (w : World) (hs : s.size ≤ 9223372036854775807) :
    Calls Try.prog 70 #[.string s] w fun e w' => e = .returned (.bool (nmB s 12)) ∧ Gr w w' := by
  go_enter Try.func70, Try.ntmps70
  go_wp2_with fail
  go_loopw [3] (fun u wr => ∃ (k : Nat), u = .int .i64 (k : Int) ∧ k ≤ s.size ∧ (s.data.toList.take k).all ltrB = true ∧ wr = w) (fun u _ => s.size - (intOf u).toNat)
  case atStart => exact ⟨0, rfl, by omega, by simp, by simp⟩
  case round =>
    obtain ⟨k, rfl, hk, ha, rfl⟩ := hrel
    have HA := hid ha; clear ha
    by_cases hlt : k < s.size
    · cases hl : ltrB s[k] with
      | true =>
        have HT := hid (ltr_take hlt HA.out hl)
        have hl2 := hl
        unfold ltrB at hl2
        simp only [Bool.and_eq_true, decide_eq_true_eq] at hl2
        have g1 : ¬ (s[k].toNat : Int) < 97 := by omega
        have g2 : ¬ (122 : Int) < (s[k].toNat : Int) := by omega
        clear hl hl2
        go_wp2_with fail
        exact ⟨⟨k + 1, by simp, by omega, HT.out, by simp⟩, by simp [intOf]; omega⟩
      | false =>
        have HN := hid (show nmB s 12 = false by unfold nmB; rw [ltr_not hlt hl]; simp)
        have hl2 := hl
        unfold ltrB at hl2
        simp at hl2
        clear hl
        by_cases g1 : (s[k].toNat : Int) < 97
        · clear hl2
          go_wp2_with fail
          go_ret
          exact ⟨ret_bool (by rw [HN.out]), Gr.refl _⟩
        · have g2 : (122 : Int) < (s[k].toNat : Int) := by omega
          clear hl2
          go_wp2_with fail
          go_ret
          exact ⟨ret_bool (by rw [HN.out]), Gr.refl _⟩
    · have hall : ltrs s = true := by
        have h := HA.out
        rw [List.take_of_length_le (by simp; omega)] at h
        exact h
      by_cases h0 : s.size = 0
      · have HN := hid (show nmB s 12 = false by unfold nmB; rw [h0]; simp)
        have he : s = ByteArray.empty := by
          obtain ⟨d⟩ := s
          have : d = #[] := by apply Array.eq_empty_of_size_eq_zero; exact h0
          rw [this]
          rfl
        clear hall h0 HA
        subst he
        go_wp2_with fail
        go_ret
        exact ⟨ret_bool (by rw [HN.out]), Gr.refl _⟩
      · have hn : ¬ s.toList = [] := fun h => by
          rw [ByteArray.toList_eq] at h
          have h2 : s.data.toList.length = 0 := by rw [h]; rfl
          have h3 : s.size = s.data.toList.length := by simp
          omega
        have hN : Hid (nmB s 12 = decide (s.size ≤ 12)) := hid (by unfold nmB; rw [hall, decide_eq_true (show 1 ≤ s.size by omega)]; simp)
        clear hall HA
        by_cases h12 : s.size ≤ 12
        · have hi12 : (s.size : Int) ≤ 12 := by omega
          go_wp2_with fail
          all_goals first
            | exact absurd (by assumption) hn
            | (go_ret; exact ⟨ret_bool (by rw [hN.out]; simp [h12]; try omega), Gr.refl _⟩)
        · have hi12 : ¬ (s.size : Int) ≤ 12 := by omega
          go_wp2_with fail
          all_goals first
            | exact absurd (by assumption) hn
            | (go_ret; exact ⟨ret_bool (by rw [hN.out]; simp [h12]; try omega), Gr.refl _⟩)
end Go.Proofs.Ytflfjedimcbfeaa
