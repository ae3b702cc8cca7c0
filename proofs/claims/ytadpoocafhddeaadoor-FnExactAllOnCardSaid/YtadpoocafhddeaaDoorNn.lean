/- WALKS: names and readers: whether they are valid, of the program and of the reference. -/
import Derived.Test.YtadpoocafhddeaaDoorNm
import Derived.Test.YtadpoocafhddeaaDoorPh
namespace Go.Proofs.YtadpoocafhddeaaDoor
open Go.RowKit Go.Sort

set_option maxHeartbeats 400000 in
theorem iIndexStr2 (s : ByteArray) (w : World) :
    Calls Tryd.prog 112 #[.string s, .func (.func 109) #[] #[]] w fun e w' => (∃ r : Int, e = .returned (.int .i64 r) ∧ decide (0 ≤ r) = !ltrs s) ∧ Gr w w' := by
  go_enter Tryd.func112, Tryd.ntmps112
  go_wp2_with fail
  refine (iIndexStr s w).mono ?_
  rintro e w1 ⟨⟨r, rfl, hr⟩, hg⟩
  have HR := hid hr; have HG := hid hg; clear hr hg
  go_wp2_with fail
  go_ret
  exact ⟨⟨r, rfl, HR.out⟩, HG.out⟩
set_option maxHeartbeats 400000 in
theorem iContStr (s : ByteArray) (w : World) :
    Calls Tryd.prog 108 #[.string s, .func (.func 109) #[] #[]] w fun e w' => e = .returned (.bool (!ltrs s)) ∧ Gr w w' := by
  go_enter Tryd.func108, Tryd.ntmps108
  go_wp2_with fail
  refine (iIndexStr2 s w).mono ?_
  rintro e w1 ⟨⟨r, rfl, hr⟩, hg⟩
  have HR := hid hr; have HG := hid hg; clear hr hg
  go_wp2_with fail
  go_ret
  exact ⟨ret_bool (by rw [← HR.out]), HG.out⟩
def nmB (s : ByteArray) (most : Nat) : Bool := (decide (1 ≤ s.size) && decide (s.size ≤ most)) && ltrs s
set_option maxHeartbeats 400000 in
theorem iName (s : ByteArray) (most : Nat) (w : World) :
    Calls Tryd.prog 105 #[.string s, .int .i64 (most : Int)] w fun e w' => e = .returned (.bool (nmB s most)) ∧ Gr w w' := by
  by_cases h1 : 1 ≤ s.size
  · by_cases h2 : s.size ≤ most
    · have e : nmB s most = ltrs s := by unfold nmB; simp [h1, h2]
      rw [e]
      obtain ⟨r, hr⟩ : ∃ r, ltrs s = r := ⟨_, rfl⟩
      have HC := hid (iContStr s w)
      rw [hr] at HC
      rw [hr]
      have d1 : ¬ (s.size : Int) < 1 := by omega
      have d2 : decide (most < s.size) = false := by simpa using h2
      clear e hr h1 h2
      go_enter Tryd.func105, Tryd.ntmps105
      go_wp2_with fail
      refine HC.out.mono ?_
      rintro e w1 ⟨rfl, hg1⟩
      have G1 := hid hg1
      clear hg1
      go_wp2_with fail
      go_ret
      exact ⟨ret_bool (by simp), G1.out⟩
    · have e : nmB s most = false := by unfold nmB; simp [h2]
      rw [e]
      have d1 : ¬ (s.size : Int) < 1 := by omega
      have d2 : decide (most < s.size) = true := by simpa using h2
      clear e h1 h2
      go_enter Tryd.func105, Tryd.ntmps105
      go_wp2
      go_ret
      exact ⟨rfl, Gr.refl _⟩
  · have e : nmB s most = false := by unfold nmB; simp [h1]
    rw [e]
    have d1 : (s.size : Int) < 1 := by omega
    clear e h1
    go_enter Tryd.func105, Tryd.ntmps105
    go_wp2
    go_ret
    exact ⟨rfl, Gr.refl _⟩
set_option maxRecDepth 20000 in
set_option maxHeartbeats 800000 in
theorem sName (s : ByteArray) (w : World) :
    Calls Tryd.prog 57 #[.string s] w fun e w' => e = .returned (.bool (nmB s 12)) ∧ Gr w w' := by
  by_cases h1 : 1 ≤ s.size
  · by_cases h2 : s.size ≤ 12
    · have e : nmB s 12 = ltrs s := by unfold nmB; simp [h1, h2]
      rw [e]
      clear e
      go_enter Tryd.func57, Tryd.ntmps57
      go_wp2_with fail
      go_loopw [3] (fun u wr => ∃ (k : Nat), u = .int .i64 (k : Int) ∧ k ≤ s.size ∧ (s.data.toList.take k).all ltrB = true ∧ wr = w) (fun u _ => s.size - (intOf u).toNat)
      case atStart => exact ⟨0, rfl, by omega, by simp, by simp⟩
      case round =>
        obtain ⟨k, rfl, hk, ha, rfl⟩ := hrel
        have HA := hid ha; clear ha
        by_cases hlt : k < s.size
        · cases hl : ltrB s[k] with
          | true =>
            have HT := hid (ltr_take hlt HA.out hl)
            have hl2 := hl
            unfold ltrB at hl2
            simp only [Bool.and_eq_true, decide_eq_true_eq] at hl2
            have g1 : ¬ (s[k].toNat : Int) < 97 := by omega
            have g2 : ¬ (122 : Int) < (s[k].toNat : Int) := by omega
            clear hl hl2
            go_wp2_with fail
            exact ⟨⟨k + 1, by simp, by omega, HT.out, by simp⟩, by simp [intOf]; omega⟩
          | false =>
            have HN := hid (ltr_not hlt hl)
            have hl2 := hl
            unfold ltrB at hl2
            simp at hl2
            clear hl
            by_cases g1 : (s[k].toNat : Int) < 97
            · clear hl2
              go_wp2_with fail
              go_ret
              exact ⟨ret_bool (by rw [HN.out]), Gr.refl _⟩
            · have g2 : (122 : Int) < (s[k].toNat : Int) := by omega
              clear hl2
              go_wp2_with fail
              go_ret
              exact ⟨ret_bool (by rw [HN.out]), Gr.refl _⟩
        · have hall : ltrs s = true := by
            have h := HA.out
            rw [List.take_of_length_le (by simp; omega)] at h
            exact h
          have HALL := hid hall
          clear hall
          go_wp2_with fail
          go_ret
          exact ⟨ret_bool (by rw [HALL.out]), Gr.refl _⟩
    · have e : nmB s 12 = false := by unfold nmB; simp [h2]
      rw [e]
      have d1 : ¬ (s.size : Int) < 1 := by omega
      have d2 : (12 : Int) < (s.size : Int) := by omega
      clear e h1 h2
      go_enter Tryd.func57, Tryd.ntmps57
      go_wp2
      go_ret
      exact ⟨rfl, Gr.refl _⟩
  · have e : nmB s 12 = false := by unfold nmB; simp [h1]
    rw [e]
    have d1 : (s.size : Int) < 1 := by omega
    clear e h1
    go_enter Tryd.func57, Tryd.ntmps57
    go_wp2
    go_ret
    exact ⟨rfl, Gr.refl _⟩
abbrev rdr (s : ByteArray) (b u : Int) (o : Bool) : Value := .agg #[.string s, .int .i16 b, .int .i16 u, .bool o]
def rrB (s : ByteArray) (b u : Int) : Bool := nmB s 12 && gsB b u
theorem iName_is (s : ByteArray) (r : Bool) (w : World) (h : nmB s 12 = r) : Calls Tryd.prog 105 #[.string s, .int .i64 12] w fun e w' => e = .returned (.bool r) ∧ Gr w w' := h ▸ iName s 12 w
theorem sName_is (s : ByteArray) (r : Bool) (w : World) (h : nmB s 12 = r) : Calls Tryd.prog 57 #[.string s] w fun e w' => e = .returned (.bool r) ∧ Gr w w' := h ▸ sName s w
end Go.Proofs.YtadpoocafhddeaaDoor
