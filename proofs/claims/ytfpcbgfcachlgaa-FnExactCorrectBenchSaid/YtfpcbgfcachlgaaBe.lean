/- BENCHES: what a valid thing is, of both sides. -/
import Derived.Test.YtfpcbgfcachlgaaTg
import Derived.Test.YtfpcbgfcachlgaaMb
import Derived.Test.YtfpcbgfcachlgaaNm
import Derived.Test.YtfpcbgfcachlgaaSkf
import Derived.Test.YtfpcbgfcachlgaaX1
import Derived.Test.YtfpcbgfcachlgaaB0
namespace Go.Proofs.Ytfpcbgfcachlgaa
open Go.RowKit Go.Sort

def grB (p q : Int) : Bool := okB p q && (decide (0 ≤ p) && decide (p * 1000 ≤ q))
def lenB (p q : Int) : Bool := decide (0 < p) && decide (p ≤ 100000 * q)
def tgB (x : Tgv) : Bool := nmB x.nm 12 && (okB x.p x.q && (lenB x.p x.q && grB x.a x.b))
theorem iFracOk (p q : Int) (r : Bool) (w : World) (h : okB p q = r) : Calls Try.prog 185 #[fr p q] w fun e w' => e = .returned (.bool r) ∧ Gr w w' := by
  cases r with
  | true => exact iok_t p q w h
  | false => exact iok_f p q w h
set_option maxRecDepth 20000 in
set_option maxHeartbeats 600000 in
theorem iGrowth (p q : Int) (w : World) : Calls Try.prog 117 #[fr p q] w fun e w' => e = .returned (.bool (grB p q)) ∧ Gr w w' := by
  unfold grB
  cases h : okB p q with
  | false =>
    have H := hid h; clear h
    go_enter Try.func117, Try.ntmps117
    go_wp2_with fail
    refine (iFracOk p q false _ H.out).mono ?_
    rintro e w1 ⟨rfl, hg1⟩
    obtain ⟨x1_0, hz1, g1⟩ := alloc1 hg1
    obtain ⟨_, _⟩ := cells2 x1_0
    have _ := fz x1_0
    have _ := ltb x1_0
    have X1_0 := hid x1_0; clear x1_0
    have G1 := hid (g1)
    clear hg1 g1
    go_wp2
    go_ret
    exact ⟨ret_bool (by simp), G1.out⟩
  | true =>
    have H := hid h
    obtain ⟨h1, h2, h3, h4⟩ := okB_bd h
    clear h
    by_cases g1 : 0 ≤ p
    · rw [decide_eq_true g1]
      by_cases g2 : p * 1000 ≤ q
      · rw [decide_eq_true g2]
        go_enter Try.func117, Try.ntmps117
        go_wp2_with fail
        refine (iFracOk p q true _ H.out).mono ?_
        rintro e w1 ⟨rfl, hg1⟩
        obtain ⟨x1_0, hz1, g1⟩ := alloc1 hg1
        obtain ⟨_, _⟩ := cells2 x1_0
        have _ := fz x1_0
        have _ := ltb x1_0
        have X1_0 := hid x1_0; clear x1_0
        have G1 := hid (g1)
        clear hg1 g1
        go_wp2
        go_ret
        exact ⟨ret_bool (by simp), G1.out⟩
      · rw [decide_eq_false g2]
        go_enter Try.func117, Try.ntmps117
        go_wp2_with fail
        refine (iFracOk p q true _ H.out).mono ?_
        rintro e w1 ⟨rfl, hg1⟩
        obtain ⟨x1_0, hz1, g1⟩ := alloc1 hg1
        obtain ⟨_, _⟩ := cells2 x1_0
        have _ := fz x1_0
        have _ := ltb x1_0
        have X1_0 := hid x1_0; clear x1_0
        have G1 := hid (g1)
        clear hg1 g1
        go_wp2
        go_ret
        exact ⟨ret_bool (by simp [g2]), G1.out⟩
    · rw [decide_eq_false g1]
      go_enter Try.func117, Try.ntmps117
      go_wp2_with fail
      refine (iFracOk p q true _ H.out).mono ?_
      rintro e w1 ⟨rfl, hg1⟩
      obtain ⟨x1_0, hz1, g1⟩ := alloc1 hg1
      obtain ⟨_, _⟩ := cells2 x1_0
      have _ := fz x1_0
      have _ := ltb x1_0
      have X1_0 := hid x1_0; clear x1_0
      have G1 := hid (g1)
      clear hg1 g1
      go_wp2
      go_ret
      exact ⟨ret_bool (by simp), G1.out⟩
theorem iGrowth_is (p q : Int) (r : Bool) (w : World) (h : grB p q = r) : Calls Try.prog 117 #[fr p q] w fun e w' => e = .returned (.bool r) ∧ Gr w w' := h ▸ iGrowth p q w
set_option maxRecDepth 20000 in
set_option maxHeartbeats 600000 in
theorem iLen (p q : Int) (w : World) (h : okB p q = true) : Calls Try.prog 186 #[fr p q, .int .i64 100000] w fun e w' => e = .returned (.bool (lenB p q)) ∧ Gr w w' := by
  obtain ⟨b1, b2, b3, b4⟩ := okB_bd h
  exact iatmost p q 100000 w (by omega) (by omega)
theorem iLen_is (p q : Int) (r : Bool) (w : World) (h : okB p q = true) (hr : lenB p q = r) : Calls Try.prog 186 #[fr p q, .int .i64 100000] w fun e w' => e = .returned (.bool r) ∧ Gr w w' := hr ▸ iLen p q w h
set_option maxRecDepth 20000 in
set_option maxHeartbeats 1000000 in
theorem iThing_1 (x : Tgv) (w : World) (h1 : nmB x.nm 12 = false) : Calls Try.prog 118 #[vTg x] w fun e w' => e = .returned (.bool false) ∧ Gr w w' := by
  have H1 := hid h1; clear h1
  go_enter Try.func118, Try.ntmps118
  go_wp2_with fail
  refine (iName_is x.nm false _ H1.out).mono ?_
  rintro e w1 ⟨rfl, hg1⟩
  obtain ⟨x1_0, hz1, g1⟩ := alloc1 hg1
  obtain ⟨_, _, _, _, _⟩ := cells5 x1_0
  have _ := fz x1_0
  have _ := ltb x1_0
  have X1_0 := hid x1_0; clear x1_0
  have G1 := hid (g1)
  clear hg1 g1
  go_wp2
  go_ret
  exact ⟨rfl, G1.out⟩
set_option maxRecDepth 20000 in
set_option maxHeartbeats 1000000 in
theorem iThing_2 (x : Tgv) (w : World) (h1 : nmB x.nm 12 = true) (h2 : okB x.p x.q = false) : Calls Try.prog 118 #[vTg x] w fun e w' => e = .returned (.bool false) ∧ Gr w w' := by
  have H1 := hid h1; have H2 := hid h2; clear h1 h2
  go_enter Try.func118, Try.ntmps118
  go_wp2_with fail
  refine (iName_is x.nm true _ H1.out).mono ?_
  rintro e w1 ⟨rfl, hg1⟩
  obtain ⟨x1_0, hz1, g1⟩ := alloc1 hg1
  obtain ⟨_, _, _, _, _⟩ := cells5 x1_0
  have _ := fz x1_0
  have _ := ltb x1_0
  have X1_0 := hid x1_0; clear x1_0
  have G1 := hid (g1)
  clear hg1 g1
  go_wp2_with fail
  refine (iFracOk x.p x.q false _ H2.out).mono ?_
  rintro e w2 ⟨rfl, hg2⟩
  have x2_1 := hg2.keep X1_0.out
  obtain ⟨_, _, _, _, _⟩ := cells5 x2_1
  have _ := fz x2_1
  have _ := ltb x2_1
  have X2_1 := hid x2_1; clear x2_1
  have G2 := hid (G1.out.trans hg2)
  clear hg2
  go_wp2
  go_ret
  exact ⟨rfl, G2.out⟩
set_option maxRecDepth 20000 in
set_option maxHeartbeats 1000000 in
theorem iThing_3 (x : Tgv) (w : World) (h1 : nmB x.nm 12 = true) (h2 : okB x.p x.q = true) (h3 : lenB x.p x.q = false) : Calls Try.prog 118 #[vTg x] w fun e w' => e = .returned (.bool false) ∧ Gr w w' := by
  have H1 := hid h1; have H2 := hid h2; have H3 := hid h3; clear h1 h2 h3
  go_enter Try.func118, Try.ntmps118
  go_wp2_with fail
  refine (iName_is x.nm true _ H1.out).mono ?_
  rintro e w1 ⟨rfl, hg1⟩
  obtain ⟨x1_0, hz1, g1⟩ := alloc1 hg1
  obtain ⟨_, _, _, _, _⟩ := cells5 x1_0
  have _ := fz x1_0
  have _ := ltb x1_0
  have X1_0 := hid x1_0; clear x1_0
  have G1 := hid (g1)
  clear hg1 g1
  go_wp2_with fail
  refine (iFracOk x.p x.q true _ H2.out).mono ?_
  rintro e w2 ⟨rfl, hg2⟩
  have x2_1 := hg2.keep X1_0.out
  obtain ⟨_, _, _, _, _⟩ := cells5 x2_1
  have _ := fz x2_1
  have _ := ltb x2_1
  have X2_1 := hid x2_1; clear x2_1
  have G2 := hid (G1.out.trans hg2)
  clear hg2
  go_wp2_with fail
  refine (iLen_is x.p x.q false _ H2.out H3.out).mono ?_
  rintro e w3 ⟨rfl, hg3⟩
  have x3_1 := hg3.keep X2_1.out
  obtain ⟨_, _, _, _, _⟩ := cells5 x3_1
  have _ := fz x3_1
  have _ := ltb x3_1
  have X3_1 := hid x3_1; clear x3_1
  have G3 := hid (G2.out.trans hg3)
  clear hg3
  go_wp2
  go_ret
  exact ⟨rfl, G3.out⟩
set_option maxRecDepth 20000 in
set_option maxHeartbeats 1000000 in
theorem iThing_4 (x : Tgv) (r : Bool) (w : World) (h1 : nmB x.nm 12 = true) (h2 : okB x.p x.q = true) (h3 : lenB x.p x.q = true) (h4 : grB x.a x.b = r) : Calls Try.prog 118 #[vTg x] w fun e w' => e = .returned (.bool r) ∧ Gr w w' := by
  have H1 := hid h1; have H2 := hid h2; have H3 := hid h3; have H4 := hid h4; clear h1 h2 h3 h4
  go_enter Try.func118, Try.ntmps118
  go_wp2_with fail
  refine (iName_is x.nm true _ H1.out).mono ?_
  rintro e w1 ⟨rfl, hg1⟩
  obtain ⟨x1_0, hz1, g1⟩ := alloc1 hg1
  obtain ⟨_, _, _, _, _⟩ := cells5 x1_0
  have _ := fz x1_0
  have _ := ltb x1_0
  have X1_0 := hid x1_0; clear x1_0
  have G1 := hid (g1)
  clear hg1 g1
  go_wp2_with fail
  refine (iFracOk x.p x.q true _ H2.out).mono ?_
  rintro e w2 ⟨rfl, hg2⟩
  have x2_1 := hg2.keep X1_0.out
  obtain ⟨_, _, _, _, _⟩ := cells5 x2_1
  have _ := fz x2_1
  have _ := ltb x2_1
  have X2_1 := hid x2_1; clear x2_1
  have G2 := hid (G1.out.trans hg2)
  clear hg2
  go_wp2_with fail
  refine (iLen_is x.p x.q true _ H2.out H3.out).mono ?_
  rintro e w3 ⟨rfl, hg3⟩
  have x3_1 := hg3.keep X2_1.out
  obtain ⟨_, _, _, _, _⟩ := cells5 x3_1
  have _ := fz x3_1
  have _ := ltb x3_1
  have X3_1 := hid x3_1; clear x3_1
  have G3 := hid (G2.out.trans hg3)
  clear hg3
  go_wp2_with fail
  refine (iGrowth_is x.a x.b r _ H4.out).mono ?_
  rintro e w4 ⟨rfl, hg4⟩
  have x4_1 := hg4.keep X3_1.out
  obtain ⟨_, _, _, _, _⟩ := cells5 x4_1
  have _ := fz x4_1
  have _ := ltb x4_1
  have X4_1 := hid x4_1; clear x4_1
  have G4 := hid (G3.out.trans hg4)
  clear hg4
  go_wp2
  go_ret
  exact ⟨rfl, G4.out⟩
theorem iThing (x : Tgv) (r : Bool) (w : World) (hr : tgB x = r) : Calls Try.prog 118 #[vTg x] w fun e w' => e = .returned (.bool r) ∧ Gr w w' := by
  unfold tgB at hr
  cases h1 : nmB x.nm 12 with
  | false => rw [h1] at hr; simp at hr; subst hr; exact iThing_1 x w h1
  | true =>
    cases h2 : okB x.p x.q with
    | false => rw [h1, h2] at hr; simp at hr; subst hr; exact iThing_2 x w h1 h2
    | true =>
      cases h3 : lenB x.p x.q with
      | false => rw [h1, h2, h3] at hr; simp at hr; subst hr; exact iThing_3 x w h1 h2 h3
      | true => rw [h1, h2, h3] at hr; simp at hr; exact iThing_4 x r w h1 h2 h3 hr
/-! the reference -/
set_option maxRecDepth 20000 in
set_option maxHeartbeats 600000 in
theorem sGrows (p q : Int) (w : World) : Calls Try.prog 109 #[fr p q] w fun e w' => e = .returned (.bool (grB p q)) ∧ Gr w w' := by
  unfold grB
  cases h : okB p q with
  | false =>
    have H := hid h; clear h
    go_enter Try.func109, Try.ntmps109
    go_wp2_with fail
    refine (sok_f p q _ H.out).mono ?_
    rintro e w1 ⟨rfl, hg1⟩
    obtain ⟨x1_0, hz1, g1⟩ := alloc1 hg1
    obtain ⟨_, _⟩ := cells2 x1_0
    have _ := fz x1_0
    have _ := ltb x1_0
    have X1_0 := hid x1_0; clear x1_0
    have G1 := hid (g1)
    clear hg1 g1
    go_wp2
    go_ret
    exact ⟨ret_bool (by simp), G1.out⟩
  | true =>
    have H := hid h
    obtain ⟨h1, h2, h3, h4⟩ := okB_bd h
    clear h
    by_cases g1 : 0 ≤ p
    · rw [decide_eq_true g1]
      by_cases g2 : p * 1000 ≤ q
      · rw [decide_eq_true g2]
        have g3 : 1000 * p ≤ q := by omega
        go_enter Try.func109, Try.ntmps109
        go_wp2_with fail
        refine (sok_t p q _ H.out).mono ?_
        rintro e w1 ⟨rfl, hg1⟩
        obtain ⟨x1_0, hz1, g1⟩ := alloc1 hg1
        obtain ⟨_, _⟩ := cells2 x1_0
        have _ := fz x1_0
        have _ := ltb x1_0
        have X1_0 := hid x1_0; clear x1_0
        have G1 := hid (g1)
        clear hg1 g1
        go_wp2
        go_ret
        exact ⟨ret_bool (by simp), G1.out⟩
      · rw [decide_eq_false g2]
        have g3 : ¬ 1000 * p ≤ q := by omega
        go_enter Try.func109, Try.ntmps109
        go_wp2_with fail
        refine (sok_t p q _ H.out).mono ?_
        rintro e w1 ⟨rfl, hg1⟩
        obtain ⟨x1_0, hz1, g1⟩ := alloc1 hg1
        obtain ⟨_, _⟩ := cells2 x1_0
        have _ := fz x1_0
        have _ := ltb x1_0
        have X1_0 := hid x1_0; clear x1_0
        have G1 := hid (g1)
        clear hg1 g1
        go_wp2
        go_ret
        exact ⟨ret_bool (by simp [g3]), G1.out⟩
    · rw [decide_eq_false g1]
      go_enter Try.func109, Try.ntmps109
      go_wp2_with fail
      refine (sok_t p q _ H.out).mono ?_
      rintro e w1 ⟨rfl, hg1⟩
      obtain ⟨x1_0, hz1, g1⟩ := alloc1 hg1
      obtain ⟨_, _⟩ := cells2 x1_0
      have _ := fz x1_0
      have _ := ltb x1_0
      have X1_0 := hid x1_0; clear x1_0
      have G1 := hid (g1)
      clear hg1 g1
      go_wp2
      go_ret
      exact ⟨ret_bool (by simp), G1.out⟩
theorem sGrows_is (p q : Int) (r : Bool) (w : World) (h : grB p q = r) : Calls Try.prog 109 #[fr p q] w fun e w' => e = .returned (.bool r) ∧ Gr w w' := h ▸ sGrows p q w
set_option maxRecDepth 20000 in
set_option maxHeartbeats 1000000 in
theorem sName7 (s : ByteArray) (w : World) (hs : s.size ≤ 9223372036854775807) :
    Calls Try.prog 110 #[.string s] w fun e w' => e = .returned (.bool (nmB s 12)) ∧ Gr w w' := by
  go_enter Try.func110, Try.ntmps110
  go_wp2_with fail
  go_loopw [3] (fun u wr => ∃ (k : Nat), u = .int .i64 (k : Int) ∧ k ≤ s.size ∧ (s.data.toList.take k).all ltrB = true ∧ wr = w) (fun u _ => s.size - (intOf u).toNat)
  case atStart => exact ⟨0, rfl, by omega, by simp, by simp⟩
  case round =>
    obtain ⟨k, rfl, hk, ha, rfl⟩ := hrel
    have HA := hid ha; clear ha
    by_cases hlt : k < s.size
    · cases hl : ltrB s[k] with
      | true =>
        have HT := hid (ltr_take hlt HA.out hl)
        have hl2 := hl
        unfold ltrB at hl2
        simp only [Bool.and_eq_true, decide_eq_true_eq] at hl2
        have g1 : ¬ (s[k].toNat : Int) < 97 := by omega
        have g2 : ¬ (122 : Int) < (s[k].toNat : Int) := by omega
        clear hl hl2
        go_wp2_with fail
        exact ⟨⟨k + 1, by simp, by omega, HT.out, by simp⟩, by simp [intOf]; omega⟩
      | false =>
        have HN := hid (show nmB s 12 = false by unfold nmB; rw [ltr_not hlt hl]; simp)
        have hl2 := hl
        unfold ltrB at hl2
        simp at hl2
        clear hl
        by_cases g1 : (s[k].toNat : Int) < 97
        · clear hl2
          go_wp2_with fail
          go_ret
          exact ⟨ret_bool (by rw [HN.out]), Gr.refl _⟩
        · have g2 : (122 : Int) < (s[k].toNat : Int) := by omega
          clear hl2
          go_wp2_with fail
          go_ret
          exact ⟨ret_bool (by rw [HN.out]), Gr.refl _⟩
    · have hall : ltrs s = true := by
        have h := HA.out
        rw [List.take_of_length_le (by simp; omega)] at h
        exact h
      by_cases h0 : s.size = 0
      · have HN := hid (show nmB s 12 = false by unfold nmB; rw [h0]; simp)
        have he : s = ByteArray.empty := by
          obtain ⟨d⟩ := s
          have : d = #[] := by apply Array.eq_empty_of_size_eq_zero; exact h0
          rw [this]
          rfl
        clear hall h0 HA
        subst he
        go_wp2_with fail
        go_ret
        exact ⟨ret_bool (by rw [HN.out]), Gr.refl _⟩
      · have hn : ¬ s.toList = [] := fun h => by
          rw [ByteArray.toList_eq] at h
          have h2 : s.data.toList.length = 0 := by rw [h]; rfl
          have h3 : s.size = s.data.toList.length := by simp
          omega
        have hN : Hid (nmB s 12 = decide (s.size ≤ 12)) := hid (by unfold nmB; rw [hall, decide_eq_true (show 1 ≤ s.size by omega)]; simp)
        clear hall HA
        by_cases h12 : s.size ≤ 12
        · have hi12 : (s.size : Int) ≤ 12 := by omega
          go_wp2_with fail
          all_goals first
            | exact absurd (by assumption) hn
            | (go_ret; exact ⟨ret_bool (by rw [hN.out]; simp [h12]; try omega), Gr.refl _⟩)
        · have hi12 : ¬ (s.size : Int) ≤ 12 := by omega
          go_wp2_with fail
          all_goals first
            | exact absurd (by assumption) hn
            | (go_ret; exact ⟨ret_bool (by rw [hN.out]; simp [h12]; try omega), Gr.refl _⟩)
end Go.Proofs.Ytfpcbgfcachlgaa
namespace Go.Proofs.Ytfpcbgfcachlgaa
open Go.RowKit Go.Sort

theorem cells8 {w : World} {b : Nat} {x0 x1 x2 x3 x4 x5 x6 x7 : Value} {T : TypeId} (h : w.heap[b]? = some (.cells #[x0, x1, x2, x3, x4, x5, x6, x7] T)) : w.cell? ⟨b, 0, none⟩ = some x0 ∧ w.cell? ⟨b, 1, none⟩ = some x1 ∧ w.cell? ⟨b, 2, none⟩ = some x2 ∧ w.cell? ⟨b, 3, none⟩ = some x3 ∧ w.cell? ⟨b, 4, none⟩ = some x4 ∧ w.cell? ⟨b, 5, none⟩ = some x5 ∧ w.cell? ⟨b, 6, none⟩ = some x6 ∧ w.cell? ⟨b, 7, none⟩ = some x7 := by
  simp [World.cell?, h]
theorem Gr.at8 {w wb : World} {b : Nat} {x0 x1 x2 x3 x4 x5 x6 x7 : Value} {T : TypeId} (hb : Gr w wb) (h : w.heap[b]? = some (.cells #[x0, x1, x2, x3, x4, x5, x6, x7] T)) :
    (∀ (m : Nat) (os : Array Obj), (grow (wb.drewN m) os).cell? ⟨b, 0, none⟩ = some x0) ∧ (∀ (m : Nat) (os : Array Obj), (grow (wb.drewN m) os).cell? ⟨b, 1, none⟩ = some x1) ∧ (∀ (m : Nat) (os : Array Obj), (grow (wb.drewN m) os).cell? ⟨b, 2, none⟩ = some x2) ∧ (∀ (m : Nat) (os : Array Obj), (grow (wb.drewN m) os).cell? ⟨b, 3, none⟩ = some x3) ∧
    (∀ (m : Nat) (os : Array Obj), (grow (wb.drewN m) os).cell? ⟨b, 4, none⟩ = some x4) ∧ (∀ (m : Nat) (os : Array Obj), (grow (wb.drewN m) os).cell? ⟨b, 5, none⟩ = some x5) ∧ (∀ (m : Nat) (os : Array Obj), (grow (wb.drewN m) os).cell? ⟨b, 6, none⟩ = some x6) ∧ (∀ (m : Nat) (os : Array Obj), (grow (wb.drewN m) os).cell? ⟨b, 7, none⟩ = some x7) :=
  have hl := (Array.getElem?_eq_some_iff.1 h).1
  have c := cells8 h
  ⟨fun m os => (hb.at m os b 0 hl).trans c.1, fun m os => (hb.at m os b 1 hl).trans c.2.1, fun m os => (hb.at m os b 2 hl).trans c.2.2.1, fun m os => (hb.at m os b 3 hl).trans c.2.2.2.1, fun m os => (hb.at m os b 4 hl).trans c.2.2.2.2.1, fun m os => (hb.at m os b 5 hl).trans c.2.2.2.2.2.1, fun m os => (hb.at m os b 6 hl).trans c.2.2.2.2.2.2.1, fun m os => (hb.at m os b 7 hl).trans c.2.2.2.2.2.2.2⟩
end Go.Proofs.Ytfpcbgfcachlgaa
namespace Go.Proofs.Ytfpcbgfcachlgaa
open Go.RowKit Go.Sort

set_option maxRecDepth 20000 in
set_option maxHeartbeats 400000 in
theorem smark8_f1 (v3 v4 v5 v6 v7 : Value) (a b : Int) (A : Option Addr) (c k j : Nat) (xs : List (Int × Int)) (w : World) (X1 : Hid (w.heap[j]? = some (.cells #[.int .i64 a, .int .i64 b, .slice A xs.length c, v3, v4, v5, v6, v7] 41)))
    (h1 : okB a b = true) (ht : okB k 1 = true) (g1 : n1B a b k = false) :
    Calls Try.prog 182 #[.pointer (some ⟨j, 0, none⟩), .int .i64 k] w fun e w' => e = .returned (.tuple #[fr 0 0, .int .i64 3]) ∧ Gr w w' := by
  have h1 := hid h1; have ht := hid ht; have g1 := hid g1
  go_enter Try.func182, Try.ntmps182
  obtain ⟨_, _, _, _, _, _, _, _⟩ := cells8 X1.out
  have _ := fz X1.out
  have _ := ltb X1.out
  go_wp2_with fail
  refine wp_reg1s #[.int .i64 0, .int .i64 0] 12 10 6 11 16 (by kernel_rfl) (by kernel_rfl) rfl rfl (by simp) rfl rfl (by decide) (fun _ _ => by kernel_rfl) (by kernel_rfl) ?_
  apply Exists.intro; apply Exists.intro
  refine ⟨fun wb hb => ?_, ?_⟩
  · obtain ⟨y0, _, _⟩ := alloc1 (Gr.refl _)
    obtain ⟨_, _⟩ := hb.at2 y0
    clear y0
    obtain ⟨_, _, _, _, _, _, _, _⟩ := hb.at8 (((Gr.refl _).al _).keep X1.out)
    simp only [headOps, List.contains, List.elem, Nat.reduceAdd, Nat.reduceBEq, reduceIte, Bool.false_eq_true, dumOp]
    repeat (first | go_big_quiet_step (first | (go_at_call 72; exact Calls.of_gr (swhole1 _ _)) | (go_at_call 129; exact Calls.of_gr (smul_f _ _ _ _ _ ht.out h1.out g1.out))) | quiet_step (fail))
    exact wpQuiet_nil rfl
  refine ⟨rfl, ⟨rfl, by simp [Value.oneCell']⟩, fun w1 b1 hg1 _ xb1 => ?_⟩
  obtain ⟨x1_0, hz1, g1⟩ := alloc1 hg1
  have x1_1 := g1.keep X1.out
  obtain ⟨_, _⟩ := cells2 x1_0
  have _ := fz x1_0
  have _ := ltb x1_0
  obtain ⟨_, _, _, _, _, _, _, _⟩ := cells8 x1_1
  have _ := fz x1_1
  have _ := ltb x1_1
  obtain ⟨_, _⟩ := cells2 xb1
  have _ := fz xb1
  have _ := ltb xb1
  have X1_0 := hid x1_0; clear x1_0
  have X1_1 := hid x1_1; clear x1_1
  have Xb1 := hid xb1; clear xb1
  have G1 := hid (g1)
  clear hg1 g1
  go_wp2
  refine bodyPost_ret (v := .tuple #[fr 0 0, .int .i64 3]) (by simp [results, Try.results182, go_sem, *]) rfl ⟨rfl, ?_⟩
  exact ((G1.out).setCell (by simp <;> omega) _).setCell (by simp <;> omega) _
set_option maxRecDepth 20000 in
set_option maxHeartbeats 400000 in
theorem smark8_f2 (v3 v4 v5 v6 v7 : Value) (a b : Int) (A : Option Addr) (c k j : Nat) (xs : List (Int × Int)) (p q : Int) (w : World) (X1 : Hid (w.heap[j]? = some (.cells #[.int .i64 a, .int .i64 b, .slice A xs.length c, v3, v4, v5, v6, v7] 41)))
    (X : Hid (RdF w A xs)) (hk : xs[k]? = some (p, q)) (_hn : xs.length ≤ 1048576) (h1 : okB a b = true) (ht : okB k 1 = true) (h2 : okB p q = true) (g1 : n1B a b k = true) (g2 : mk2 a b k p q = false) :
    Calls Try.prog 182 #[.pointer (some ⟨j, 0, none⟩), .int .i64 k] w fun e w' => e = .returned (.tuple #[fr 0 0, .int .i64 3]) ∧ Gr w w' := by
  have hlt := (List.getElem?_eq_some_iff.1 hk).1
  obtain ⟨ad, rfl, c1, c2⟩ := X.out k p q hk
  have C1 := hid c1; have C2 := hid c2
  have h1 := hid h1; have ht := hid ht; have h2 := hid h2; have g1 := hid g1; have g2 := hid g2
  clear hk c1 c2
  go_enter Try.func182, Try.ntmps182
  obtain ⟨_, _, _, _, _, _, _, _⟩ := cells8 X1.out
  have _ := fz X1.out
  have _ := ltb X1.out
  go_wp2_with fail
  refine wp_reg1s #[.int .i64 0, .int .i64 0] 12 10 6 11 16 (by kernel_rfl) (by kernel_rfl) rfl rfl (by simp) rfl rfl (by decide) (fun _ _ => by kernel_rfl) (by kernel_rfl) ?_
  apply Exists.intro; apply Exists.intro
  refine ⟨fun wb hb => ?_, ?_⟩
  · obtain ⟨y0, _, _⟩ := alloc1 (Gr.refl _)
    obtain ⟨_, _⟩ := hb.at2 y0
    clear y0
    obtain ⟨_, _, _, _, _, _, _, _⟩ := hb.at8 (((Gr.refl _).al _).keep X1.out)
    simp only [headOps, List.contains, List.elem, Nat.reduceAdd, Nat.reduceBEq, reduceIte, Bool.false_eq_true, dumOp]
    repeat (first | go_big_quiet_step (first | (go_at_call 72; exact Calls.of_gr (swhole1 _ _)) | (go_at_call 129; exact Calls.of_gr (mulw_t a b k _ h1.out ht.out g1.out))) | quiet_step (fail))
    exact wpQuiet_nil rfl
  refine ⟨rfl, ⟨rfl, by simp [Value.oneCell']⟩, fun w1 b1 hg1 _ xb1 => ?_⟩
  obtain ⟨x1_0, hz1, g1⟩ := alloc1 hg1
  have x1_1 := g1.keep X1.out
  obtain ⟨_, _⟩ := cells2 x1_0
  have _ := fz x1_0
  have _ := ltb x1_0
  obtain ⟨_, _, _, _, _, _, _, _⟩ := cells8 x1_1
  have _ := fz x1_1
  have _ := ltb x1_1
  obtain ⟨_, _⟩ := cells2 xb1
  have _ := fz xb1
  have _ := ltb xb1
  have X1_0 := hid x1_0; clear x1_0
  have X1_1 := hid x1_1; clear x1_1
  have Xb1 := hid xb1; clear xb1
  have G1 := hid (g1)
  clear hg1 g1
  go_wp2_with fail
  refine wp_reg0 11 (by kernel_rfl) (by kernel_rfl) ?_
  apply Exists.intro
  refine ⟨fun wb hb => ?_, ?_⟩
  · obtain ⟨_, _⟩ := hb.at2 X1_0.out
    obtain ⟨_, _, _, _, _, _, _, _⟩ := hb.at8 X1_1.out
    obtain ⟨_, _⟩ := hb.at2 Xb1.out
    have hg := G1.out.trans hb
    have _ := hg.atF C1.out; have _ := hg.atF C2.out
    clear hg
    simp only [headOps, List.contains, List.elem, reduceIte, Bool.false_eq_true]
    repeat (first | go_big_quiet_step (first | (go_at_call 130; exact Calls.of_gr (saddm_f a b k p q _ h2.out g1.out g2.out))) | quiet_step (fail))
    exact wpQuiet_nil rfl
  intro w2 hg2
  have x2_1 := hg2.keep X1_0.out
  have x2_2 := hg2.keep X1_1.out
  have x2_3 := hg2.keep Xb1.out
  obtain ⟨_, _⟩ := cells2 x2_1
  have _ := fz x2_1
  have _ := ltb x2_1
  obtain ⟨_, _, _, _, _, _, _, _⟩ := cells8 x2_2
  have _ := fz x2_2
  have _ := ltb x2_2
  obtain ⟨_, _⟩ := cells2 x2_3
  have _ := fz x2_3
  have _ := ltb x2_3
  have X2_1 := hid x2_1; clear x2_1
  have X2_2 := hid x2_2; clear x2_2
  have X2_3 := hid x2_3; clear x2_3
  have G2 := hid (G1.out.trans hg2)
  clear hg2
  go_wp2
  refine bodyPost_ret (v := .tuple #[fr 0 0, .int .i64 3]) (by simp [results, Try.results182, go_sem, *]) rfl ⟨rfl, ?_⟩
  exact ((G2.out).setCell (by simp <;> omega) _).setCell (by simp <;> omega) _
set_option maxRecDepth 20000 in
set_option maxHeartbeats 400000 in
theorem smark8_t (v3 v4 v5 v6 v7 : Value) (a b : Int) (A : Option Addr) (c k j : Nat) (xs : List (Int × Int)) (p q : Int) (w : World) (X1 : Hid (w.heap[j]? = some (.cells #[.int .i64 a, .int .i64 b, .slice A xs.length c, v3, v4, v5, v6, v7] 41)))
    (X : Hid (RdF w A xs)) (hk : xs[k]? = some (p, q)) (_hn : xs.length ≤ 1048576) (h1 : okB a b = true) (ht : okB k 1 = true) (h2 : okB p q = true) (g1 : n1B a b k = true) (g2 : mk2 a b k p q = true) :
    Calls Try.prog 182 #[.pointer (some ⟨j, 0, none⟩), .int .i64 k] w fun e w' => e = .returned (.tuple #[fr (mkP a b k p q) (mkQ a b k p q), .int .i64 0]) ∧ Gr w w' := by
  have hlt := (List.getElem?_eq_some_iff.1 hk).1
  obtain ⟨ad, rfl, c1, c2⟩ := X.out k p q hk
  have C1 := hid c1; have C2 := hid c2
  have h1 := hid h1; have ht := hid ht; have h2 := hid h2; have g1 := hid g1; have g2 := hid g2
  clear hk c1 c2
  go_enter Try.func182, Try.ntmps182
  obtain ⟨_, _, _, _, _, _, _, _⟩ := cells8 X1.out
  have _ := fz X1.out
  have _ := ltb X1.out
  go_wp2_with fail
  refine wp_reg1s #[.int .i64 0, .int .i64 0] 12 10 6 11 16 (by kernel_rfl) (by kernel_rfl) rfl rfl (by simp) rfl rfl (by decide) (fun _ _ => by kernel_rfl) (by kernel_rfl) ?_
  apply Exists.intro; apply Exists.intro
  refine ⟨fun wb hb => ?_, ?_⟩
  · obtain ⟨y0, _, _⟩ := alloc1 (Gr.refl _)
    obtain ⟨_, _⟩ := hb.at2 y0
    clear y0
    obtain ⟨_, _, _, _, _, _, _, _⟩ := hb.at8 (((Gr.refl _).al _).keep X1.out)
    simp only [headOps, List.contains, List.elem, Nat.reduceAdd, Nat.reduceBEq, reduceIte, Bool.false_eq_true, dumOp]
    repeat (first | go_big_quiet_step (first | (go_at_call 72; exact Calls.of_gr (swhole1 _ _)) | (go_at_call 129; exact Calls.of_gr (mulw_t a b k _ h1.out ht.out g1.out))) | quiet_step (fail))
    exact wpQuiet_nil rfl
  refine ⟨rfl, ⟨rfl, by simp [Value.oneCell']⟩, fun w1 b1 hg1 _ xb1 => ?_⟩
  obtain ⟨x1_0, hz1, g1⟩ := alloc1 hg1
  have x1_1 := g1.keep X1.out
  obtain ⟨_, _⟩ := cells2 x1_0
  have _ := fz x1_0
  have _ := ltb x1_0
  obtain ⟨_, _, _, _, _, _, _, _⟩ := cells8 x1_1
  have _ := fz x1_1
  have _ := ltb x1_1
  obtain ⟨_, _⟩ := cells2 xb1
  have _ := fz xb1
  have _ := ltb xb1
  have X1_0 := hid x1_0; clear x1_0
  have X1_1 := hid x1_1; clear x1_1
  have Xb1 := hid xb1; clear xb1
  have G1 := hid (g1)
  clear hg1 g1
  go_wp2_with fail
  refine wp_reg0 11 (by kernel_rfl) (by kernel_rfl) ?_
  apply Exists.intro
  refine ⟨fun wb hb => ?_, ?_⟩
  · obtain ⟨_, _⟩ := hb.at2 X1_0.out
    obtain ⟨_, _, _, _, _, _, _, _⟩ := hb.at8 X1_1.out
    obtain ⟨_, _⟩ := hb.at2 Xb1.out
    have hg := G1.out.trans hb
    have _ := hg.atF C1.out; have _ := hg.atF C2.out
    clear hg
    simp only [headOps, List.contains, List.elem, reduceIte, Bool.false_eq_true]
    repeat (first | go_big_quiet_step (first | (go_at_call 130; exact Calls.of_gr (saddm_t a b k p q _ h2.out g1.out g2.out))) | quiet_step (fail))
    exact wpQuiet_nil rfl
  intro w2 hg2
  have x2_1 := hg2.keep X1_0.out
  have x2_2 := hg2.keep X1_1.out
  have x2_3 := hg2.keep Xb1.out
  obtain ⟨_, _⟩ := cells2 x2_1
  have _ := fz x2_1
  have _ := ltb x2_1
  obtain ⟨_, _, _, _, _, _, _, _⟩ := cells8 x2_2
  have _ := fz x2_2
  have _ := ltb x2_2
  obtain ⟨_, _⟩ := cells2 x2_3
  have _ := fz x2_3
  have _ := ltb x2_3
  have X2_1 := hid x2_1; clear x2_1
  have X2_2 := hid x2_2; clear x2_2
  have X2_3 := hid x2_3; clear x2_3
  have G2 := hid (G1.out.trans hg2)
  clear hg2
  go_wp2
  refine bodyPost_ret (v := .tuple #[fr (mkP a b k p q) (mkQ a b k p q), .int .i64 0]) (by simp [results, Try.results182, go_sem, *]) rfl ⟨rfl, ?_⟩
  exact ((G2.out).setCell (by simp <;> omega) _).setCell (by simp <;> omega) _
end Go.Proofs.Ytfpcbgfcachlgaa
namespace Go.Proofs.Ytfpcbgfcachlgaa
open Go.RowKit Go.Sort Go.Shelf
attribute [local go_sem] Oper.semAt_some wide_fn

theorem smark8_no (v3 v4 v5 v6 v7 : Value) (a b : Int) (A : Option Addr) (c k j : Nat) (xs : List (Int × Int)) (p q : Int) (w : World) (X1 : Hid (w.heap[j]? = some (.cells #[.int .i64 a, .int .i64 b, .slice A xs.length c, v3, v4, v5, v6, v7] 41)))
    (X : Hid (RdF w A xs)) (hk : xs[k]? = some (p, q)) (hn : xs.length ≤ 1048576) (h1 : okB a b = true) (ht : okB k 1 = true) (h2 : okB p q = true) (g : mkB a b k p q = false) :
    Calls Try.prog 182 #[.pointer (some ⟨j, 0, none⟩), .int .i64 k] w fun e w' => e = .returned (.tuple #[fr 0 0, .int .i64 3]) ∧ Gr w w' := by
  unfold mkB at g
  cases g1 : n1B a b k with
  | false => exact smark8_f1 v3 v4 v5 v6 v7 a b A c k j xs w X1 h1 ht g1
  | true =>
    rw [g1] at g
    exact smark8_f2 v3 v4 v5 v6 v7 a b A c k j xs p q w X1 X hk hn h1 ht h2 g1 (by simpa using g)
theorem smark8_yes (v3 v4 v5 v6 v7 : Value) (a b : Int) (A : Option Addr) (c k j : Nat) (xs : List (Int × Int)) (p q : Int) (w : World) (X1 : Hid (w.heap[j]? = some (.cells #[.int .i64 a, .int .i64 b, .slice A xs.length c, v3, v4, v5, v6, v7] 41)))
    (X : Hid (RdF w A xs)) (hk : xs[k]? = some (p, q)) (hn : xs.length ≤ 1048576) (h1 : okB a b = true) (ht : okB k 1 = true) (h2 : okB p q = true) (g : mkB a b k p q = true) :
    Calls Try.prog 182 #[.pointer (some ⟨j, 0, none⟩), .int .i64 k] w fun e w' => e = .returned (.tuple #[fr (mkP a b k p q) (mkQ a b k p q), .int .i64 0]) ∧ Gr w w' := by
  unfold mkB at g
  simp only [Bool.and_eq_true] at g
  exact smark8_t v3 v4 v5 v6 v7 a b A c k j xs p q w X1 X hk hn h1 ht h2 g.1 g.2
/-- All marks of a scale. -/
def mksB (a b : Int) (xs : List (Int × Int)) : List (Int × Int) := xs.mapIdx fun k x => (mkP a b k x.1 x.2, mkQ a b k x.1 x.2)
set_option maxRecDepth 20000 in
set_option maxHeartbeats 1000000 in
/-- spec.l02Ok -/
theorem sScOk8 (v3 v4 v5 v6 v7 : Value) (a b : Int) (A : Option Addr) (c j : Nat) (xs : List (Int × Int)) (w : World) (X1 : Hid (w.heap[j]? = some (.cells #[.int .i64 a, .int .i64 b, .slice A xs.length c, v3, v4, v5, v6, v7] 41))) (X : Hid (RdF w A xs)) (hn : xs.length ≤ 1048576) :
    Calls Try.prog 107 #[.pointer (some ⟨j, 0, none⟩)] w fun e w' => e = .returned (.bool (sclB a b xs)) ∧ Gr w w' := by
  unfold sclB
  cases h1 : withinB a b 1000 with
  | false =>
    have HW := hid fun w => (swithin a b 1000 w ok1000)
    rw [h1] at HW
    go_enter Try.func107, Try.ntmps107
    obtain ⟨_, _, _, _, _, _, _, _⟩ := cells8 X1.out
    have _ := fz X1.out
    have _ := ltb X1.out
    go_wp2_with fail
    refine (HW.out _).mono ?_
    rintro e w1 ⟨rfl, hg1⟩
    have x1_1 := hg1.keep X1.out
    obtain ⟨_, _, _, _, _, _, _, _⟩ := cells8 x1_1
    have _ := fz x1_1
    have _ := ltb x1_1
    have X1_1 := hid x1_1; clear x1_1
    have G1 := hid (hg1)
    clear hg1
    go_wp2
    go_ret
    exact ⟨rfl, G1.out⟩
  | true =>
    have HW := hid fun w => (swithin a b 1000 w ok1000)
    rw [h1] at HW
    have ho := hid (within_ok h1)
    clear h1
    cases h2 : inB (xs.length : Int) 2 60 with
    | false =>
      have h2 := hid h2
      go_enter Try.func107, Try.ntmps107
      obtain ⟨_, _, _, _, _, _, _, _⟩ := cells8 X1.out
      have _ := fz X1.out
      have _ := ltb X1.out
      go_wp2_with fail
      refine (HW.out _).mono ?_
      rintro e w1 ⟨rfl, hg1⟩
      have x1_1 := hg1.keep X1.out
      obtain ⟨_, _, _, _, _, _, _, _⟩ := cells8 x1_1
      have _ := fz x1_1
      have _ := ltb x1_1
      have X1_1 := hid x1_1; clear x1_1
      have G1 := hid (hg1)
      clear hg1
      go_wp2_with fail
      refine (in_f _ _ _ _ h2.out).mono ?_
      rintro e w2 ⟨rfl, hg2⟩
      have x2_1 := hg2.keep X1_1.out
      obtain ⟨_, _, _, _, _, _, _, _⟩ := cells8 x2_1
      have _ := fz x2_1
      have _ := ltb x2_1
      have X2_1 := hid x2_1; clear x2_1
      have G2 := hid (G1.out.trans hg2)
      clear hg2
      go_wp2
      go_ret
      exact ⟨rfl, G2.out⟩
    | true =>
      obtain ⟨l1, l2⟩ := in_bd h2
      have h2 := hid h2
      obtain ⟨r, hr⟩ : ∃ r, allE a b 0 xs = r := ⟨_, rfl⟩
      rw [hr]
      have HR := hid hr
      clear hr
      go_enter Try.func107, Try.ntmps107
      obtain ⟨_, _, _, _, _, _, _, _⟩ := cells8 X1.out
      have _ := fz X1.out
      have _ := ltb X1.out
      go_wp2_with fail
      refine (HW.out _).mono ?_
      rintro e w1 ⟨rfl, hg1⟩
      have x1_1 := hg1.keep X1.out
      obtain ⟨_, _, _, _, _, _, _, _⟩ := cells8 x1_1
      have _ := fz x1_1
      have _ := ltb x1_1
      have X1_1 := hid x1_1; clear x1_1
      have G1 := hid (hg1)
      clear hg1
      go_wp2_with fail
      refine (in_t _ _ _ _ h2.out).mono ?_
      rintro e w2 ⟨rfl, hg2⟩
      have x2_1 := hg2.keep X1_1.out
      obtain ⟨_, _, _, _, _, _, _, _⟩ := cells8 x2_1
      have _ := fz x2_1
      have _ := ltb x2_1
      have X2_1 := hid x2_1; clear x2_1
      have G2 := hid (G1.out.trans hg2)
      clear hg2
      go_wp2_with fail
      go_loopw [3] (fun u wr => ∃ (k : Nat), u = .int .i64 (k : Int) ∧ k ≤ xs.length ∧ Gr w wr ∧ ∀ (i : Nat) (p q : Int), i < k → xs[i]? = some (p, q) → scE a b i p q = true) (fun u _ => xs.length - (intOf u).toNat)
      case atStart => exact ⟨0, rfl, by omega, G2.out, fun i p q h => by omega⟩
      case round =>
        obtain ⟨k, rfl, hk, g0, hall⟩ := hrel
        have Y1 := hid (g0.keep X1.out); have HX := hid (X.out.keep g0)
        have GW := hid g0; have HALL := hid hall
        clear g0 hall
        by_cases hlt : k < xs.length
        · obtain ⟨⟨p, q⟩, hpq⟩ : ∃ pq, xs[k]? = some pq := ⟨xs[k], List.getElem?_eq_getElem _⟩
          obtain ⟨ad, rfl, c1, c2⟩ := HX.out k p q hpq
          have HPQ := hid hpq; clear hpq
          cases hx : okB p q with
          | false =>
            have e : allE a b 0 xs = false := allE_no HPQ.out (by unfold scE; rw [hx]; rfl)
            have HX2 := hid hx
            clear hx
            obtain ⟨_, _, _, _, _, _, _, _⟩ := cells8 Y1.out
            have _ := fz Y1.out
            have _ := ltb Y1.out
            go_wp2_with fail
            refine wp_reg0 23 (by kernel_rfl) (by kernel_rfl) ?_
            apply Exists.intro
            refine ⟨fun wb hb => ?_, ?_⟩
            · obtain ⟨_, _, _, _, _, _, _, _⟩ := hb.at8 (((Gr.refl _).al _).keep Y1.out)
              obtain ⟨_, _⟩ := hb.at2 (alloc1 (Gr.refl _)).1
              simp only [headOps, List.contains, List.elem, reduceIte, Bool.false_eq_true]
              repeat (first | go_big_quiet_step (first | (go_at_call 112; exact Calls.of_gr (sok_f _ _ _ HX2.out))) | quiet_step (fail))
              exact wpQuiet_nil rfl
            intro w1 hg1
            obtain ⟨x1_0, hz1, g1⟩ := alloc1 hg1
            have x1_1 := g1.keep Y1.out
            obtain ⟨_, _, _, _, _, _, _, _⟩ := cells8 x1_1
            have _ := fz x1_1
            have _ := ltb x1_1
            obtain ⟨_, _⟩ := cells2 x1_0
            have _ := fz x1_0
            have _ := ltb x1_0
            have X1_1 := hid x1_1; clear x1_1
            have X1_0 := hid x1_0; clear x1_0
            have G1 := hid (GW.out.trans g1)
            clear hg1 g1
            go_wp2
            go_ret
            exact ⟨ret_bool (by rw [← HR.out, e]; simp), G1.out⟩
          | true =>
            obtain ⟨q0, q1, q2, q3, q4, q5⟩ := quarter_bd ho.out hx
            obtain ⟨_, _, d3, d4⟩ := okB_bd hx
            have HA := hid fun w => (abs_any p w (by omega) (by omega))
            have hkk : (k : Int) ≤ 60 := by omega
            have ht := hid (ok_whole (t := k) (by omega) (by omega))
            have HX2 := hid hx
            clear hx d3 d4
            cases hq : qtB a b p q with
            | false =>
              have e : allE a b 0 xs = false := allE_no HPQ.out (by unfold scE; rw [HX2.out, hq]; rfl)
              have hq1 : decide (a * q < 4 * absI p * b) = true := by unfold qtB at hq; simp at hq ⊢; exact hq
              unfold absI at *
              clear hq
              obtain ⟨_, _, _, _, _, _, _, _⟩ := cells8 Y1.out
              have _ := fz Y1.out
              have _ := ltb Y1.out
              go_wp2_with fail
              refine wp_reg0 23 (by kernel_rfl) (by kernel_rfl) ?_
              apply Exists.intro
              refine ⟨fun wb hb => ?_, ?_⟩
              · obtain ⟨_, _, _, _, _, _, _, _⟩ := hb.at8 (((Gr.refl _).al _).keep Y1.out)
                obtain ⟨_, _⟩ := hb.at2 (alloc1 (Gr.refl _)).1
                simp only [headOps, List.contains, List.elem, reduceIte, Bool.false_eq_true]
                repeat (first | go_big_quiet_step (first | (go_at_call 112; exact Calls.of_gr (sok_t _ _ _ HX2.out)) | (go_at_call 144; exact Calls.of_same (HA.out _))) | quiet_step (fail))
                exact wpQuiet_nil rfl
              intro w1 hg1
              obtain ⟨x1_0, hz1, g1⟩ := alloc1 hg1
              have x1_1 := g1.keep Y1.out
              obtain ⟨_, _, _, _, _, _, _, _⟩ := cells8 x1_1
              have _ := fz x1_1
              have _ := ltb x1_1
              obtain ⟨_, _⟩ := cells2 x1_0
              have _ := fz x1_0
              have _ := ltb x1_0
              have X1_1 := hid x1_1; clear x1_1
              have X1_0 := hid x1_0; clear x1_0
              have G1 := hid (GW.out.trans g1)
              clear hg1 g1
              go_wp2
              go_ret
              exact ⟨ret_bool (by rw [← HR.out, e]; simp), G1.out⟩
            | true =>
              have hq1 : decide (a * q < 4 * absI p * b) = false := by unfold qtB at hq; simp at hq ⊢; exact hq
              have HQ := hid hq
              clear hq
              cases hm : mkB a b k p q with
              | false =>
                have e : allE a b 0 xs = false := allE_no HPQ.out (by unfold scE; rw [HX2.out, HQ.out, hm]; rfl)
                have HM := hid hm; clear hm
                have HMK := hid fun (w' : World) (Z1 : Hid (w'.heap[j]? = some (.cells #[.int .i64 a, .int .i64 b, .slice (some ad) xs.length c, v3, v4, v5, v6, v7] 41))) (Z : Hid (RdF w' (some ad) xs)) => smark8_no v3 v4 v5 v6 v7 a b (some ad) c k j xs p q w' Z1 Z HPQ.out (by omega) ho.out ht.out HX2.out HM.out
                unfold absI at *
                obtain ⟨_, _, _, _, _, _, _, _⟩ := cells8 Y1.out
                have _ := fz Y1.out
                have _ := ltb Y1.out
                go_wp2_with fail
                refine wp_reg0 23 (by kernel_rfl) (by kernel_rfl) ?_
                apply Exists.intro
                refine ⟨fun wb hb => ?_, ?_⟩
                · obtain ⟨_, _, _, _, _, _, _, _⟩ := hb.at8 (((Gr.refl _).al _).keep Y1.out)
                  obtain ⟨_, _⟩ := hb.at2 (alloc1 (Gr.refl _)).1
                  simp only [headOps, List.contains, List.elem, reduceIte, Bool.false_eq_true]
                  repeat (first | go_big_quiet_step (first | (go_at_call 112; exact Calls.of_gr (sok_t _ _ _ HX2.out)) | (go_at_call 144; exact Calls.of_same (HA.out _))) | quiet_step (fail))
                  exact wpQuiet_nil rfl
                intro w1 hg1
                obtain ⟨x1_0, hz1, g1⟩ := alloc1 hg1
                have x1_1 := g1.keep Y1.out
                obtain ⟨_, _, _, _, _, _, _, _⟩ := cells8 x1_1
                have _ := fz x1_1
                have _ := ltb x1_1
                obtain ⟨_, _⟩ := cells2 x1_0
                have _ := fz x1_0
                have _ := ltb x1_0
                have X1_1 := hid x1_1; clear x1_1
                have X1_0 := hid x1_0; clear x1_0
                have G1 := hid (GW.out.trans g1)
                clear hg1 g1
                go_wp2_with fail
                refine (HMK.out _ (hid X1_1.out) (hid (X.out.keep G1.out))).mono ?_
                rintro e w2 ⟨rfl, hg2⟩
                have x2_1 := hg2.keep X1_1.out
                have x2_2 := hg2.keep X1_0.out
                obtain ⟨_, _, _, _, _, _, _, _⟩ := cells8 x2_1
                have _ := fz x2_1
                have _ := ltb x2_1
                obtain ⟨_, _⟩ := cells2 x2_2
                have _ := fz x2_2
                have _ := ltb x2_2
                have X2_1 := hid x2_1; clear x2_1
                have X2_2 := hid x2_2; clear x2_2
                have G2 := hid (G1.out.trans hg2)
                clear hg2
                go_wp2
                go_ret
                exact ⟨ret_bool (by rw [← HR.out, e]; simp), (G2.out).al _⟩
              | true =>
                have HM := hid hm; clear hm
                have HMK := hid fun (w' : World) (Z1 : Hid (w'.heap[j]? = some (.cells #[.int .i64 a, .int .i64 b, .slice (some ad) xs.length c, v3, v4, v5, v6, v7] 41))) (Z : Hid (RdF w' (some ad) xs)) => smark8_yes v3 v4 v5 v6 v7 a b (some ad) c k j xs p q w' Z1 Z HPQ.out (by omega) ho.out ht.out HX2.out HM.out
                have hqq : qtB a b p q = true := HQ.out
                have HE : Hid (scE a b k p q = true) := hid (by unfold scE; rw [HX2.out, hqq, HM.out]; rfl)
                clear hqq
                unfold absI at *
                obtain ⟨_, _, _, _, _, _, _, _⟩ := cells8 Y1.out
                have _ := fz Y1.out
                have _ := ltb Y1.out
                go_wp2_with fail
                refine wp_reg0 23 (by kernel_rfl) (by kernel_rfl) ?_
                apply Exists.intro
                refine ⟨fun wb hb => ?_, ?_⟩
                · obtain ⟨_, _, _, _, _, _, _, _⟩ := hb.at8 (((Gr.refl _).al _).keep Y1.out)
                  obtain ⟨_, _⟩ := hb.at2 (alloc1 (Gr.refl _)).1
                  simp only [headOps, List.contains, List.elem, reduceIte, Bool.false_eq_true]
                  repeat (first | go_big_quiet_step (first | (go_at_call 112; exact Calls.of_gr (sok_t _ _ _ HX2.out)) | (go_at_call 144; exact Calls.of_same (HA.out _))) | quiet_step (fail))
                  exact wpQuiet_nil rfl
                intro w1 hg1
                obtain ⟨x1_0, hz1, g1⟩ := alloc1 hg1
                have x1_1 := g1.keep Y1.out
                obtain ⟨_, _, _, _, _, _, _, _⟩ := cells8 x1_1
                have _ := fz x1_1
                have _ := ltb x1_1
                obtain ⟨_, _⟩ := cells2 x1_0
                have _ := fz x1_0
                have _ := ltb x1_0
                have X1_1 := hid x1_1; clear x1_1
                have X1_0 := hid x1_0; clear x1_0
                have G1 := hid (GW.out.trans g1)
                clear hg1 g1
                go_wp2_with fail
                refine (HMK.out _ (hid X1_1.out) (hid (X.out.keep G1.out))).mono ?_
                rintro e w2 ⟨rfl, hg2⟩
                have x2_1 := hg2.keep X1_1.out
                have x2_2 := hg2.keep X1_0.out
                obtain ⟨_, _, _, _, _, _, _, _⟩ := cells8 x2_1
                have _ := fz x2_1
                have _ := ltb x2_1
                obtain ⟨_, _⟩ := cells2 x2_2
                have _ := fz x2_2
                have _ := ltb x2_2
                have X2_1 := hid x2_1; clear x2_1
                have X2_2 := hid x2_2; clear x2_2
                have G2 := hid (G1.out.trans hg2)
                clear hg2
                go_wp2_with fail
                refine ⟨⟨k + 1, by simp, by omega, G2.out.al _, fun i p' q' hi hp' => ?_⟩, by simp [intOf]; omega⟩
                by_cases he : i = k
                · subst he
                  have := HPQ.out
                  rw [hp'] at this
                  cases this
                  exact HE.out
                · exact HALL.out i p' q' (by omega) hp'
        · have hke : k = xs.length := by omega
          have e : allE a b 0 xs = true := allE_yes (fun i p q hi hp => HALL.out i p q (by omega) hp)
          obtain ⟨_, _, _, _, _, _, _, _⟩ := cells8 Y1.out
          have _ := fz Y1.out
          have _ := ltb Y1.out
          go_wp2
          go_ret
          exact ⟨ret_bool (by rw [← HR.out, e]; simp), GW.out⟩
set_option maxRecDepth 20000 in
set_option maxHeartbeats 400000 in
theorem sVernAt8 (v0 v1 v2 v5 v6 v7 : Value) (n : Int) (b : Bool) (w : World) (k : Nat) (X1 : Hid (w.heap[k]? = some (.cells #[v0, v1, v2, .int .i64 n, .bool b, v5, v6, v7] 41))) :
    Calls Try.prog 108 #[.pointer (some ⟨k, 3, none⟩)] w fun e w' => e = .returned (.bool (inB n 2 40)) ∧ Gr w w' := by
  go_enter Try.func108, Try.ntmps108
  obtain ⟨_, _, _, _, _, _, _, _⟩ := cells8 X1.out
  have _ := fz X1.out
  have _ := ltb X1.out
  go_wp2_with (go_at_call 82; refine (in_any _ _ _ _).mono ?_; rintro e w1 ⟨rfl, rfl⟩)
  go_ret
  exact ⟨rfl, Gr.refl _⟩
end Go.Proofs.Ytfpcbgfcachlgaa
