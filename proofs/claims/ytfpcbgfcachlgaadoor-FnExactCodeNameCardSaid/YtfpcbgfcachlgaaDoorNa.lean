/- CodeName: the program and the reference; arrays that read as listed texts or numbers. -/
import Derived.Test.YtfpcbgfcachlgaaDoorX1
import Derived.Lib.LaidTab
import Derived.Stop.LaidErr
namespace Go.Proofs.YtfpcbgfcachlgaaDoor
open Go.RowKit Go.Sort

/-- The names of codes. -/
def cnL : List (List UInt8) := [[111, 107], [105, 110, 118, 97, 108, 105, 100], [114, 97, 110, 103, 101], [108, 105, 109, 105, 116], [115, 116, 97, 116, 101], [115, 121, 110, 116, 97, 120], [110, 111, 116, 102, 111, 117, 110, 100], [98, 117, 100, 103, 101, 116], [112, 114, 111, 111, 102]]
def cnB (k : Nat) : ByteArray := ⟨(cnL.getD k []).toArray⟩
def cnC : Array Value := (cnL.map fun l => Value.string ⟨l.toArray⟩).toArray
theorem cnC_get (k : Nat) (h : k < 9) : cnC[k]? = some (.string (cnB k)) := by
  match k, h with
  | 0, _ => rfl
  | 1, _ => rfl
  | 2, _ => rfl
  | 3, _ => rfl
  | 4, _ => rfl
  | 5, _ => rfl
  | 6, _ => rfl
  | 7, _ => rfl
  | 8, _ => rfl
/-- What CodeName gives. -/
def codeB (c : Int) : ByteArray := if 0 ≤ c ∧ c < 9 then cnB c.toNat else ⟨#[]⟩
/-- The variable impl.codeNames holds the names. -/
def CnAt (w : World) : Prop := ∃ T fr, w.heap[0]? = some (.cells cnC T fr)
theorem CnAt.keep {w w' : World} (h : CnAt w) (hg : Gr w w') : CnAt w' := by
  obtain ⟨T, fr, h⟩ := h
  exact ⟨T, fr, hg.keep h⟩
set_option maxRecDepth 20000 in
set_option maxHeartbeats 1000000 in
theorem iCN (c : Int) (w : World) (H : Hid (CnAt w)) :
    Calls Tryd.prog 9 #[.int .i64 c] w fun e w' => e = .returned (.string (codeB c)) ∧ Gr w w' := by
  by_cases h0 : 0 ≤ c
  · by_cases h9 : c < 9
    · obtain ⟨k, rfl⟩ := Int.eq_ofNat_of_zero_le h0
      have hk : k < 9 := by omega
      have hv : codeB (k : Int) = cnB k := by unfold codeB; rw [if_pos (by omega)]; simp
      obtain ⟨T, fr, hT⟩ := H.out
      have hc : w.cell? ⟨0, k, none⟩ = some (.string (cnB k)) := by simp only [World.cell?, hT]; exact cnC_get k hk
      clear hT
      go_enter Tryd.func9, Tryd.ntmps9
      go_wp2
      go_ret
      exact ⟨by first | rfl | (rw [hv]; rfl), Gr.refl _⟩
    · have hv : codeB c = ⟨#[]⟩ := by unfold codeB; rw [if_neg (by omega)]
      go_enter Tryd.func9, Tryd.ntmps9
      go_wp2
      go_ret
      exact ⟨by first | rfl | (rw [hv]; rfl), Gr.refl _⟩
  · have hv : codeB c = ⟨#[]⟩ := by unfold codeB; rw [if_neg (by omega)]
    go_enter Tryd.func9, Tryd.ntmps9
    go_wp2
    go_ret
    exact ⟨by first | rfl | (rw [hv]; rfl), Gr.refl _⟩
set_option maxRecDepth 20000 in
set_option maxHeartbeats 1000000 in
theorem sCN (c : Int) (w : World) :
    Calls Tryd.prog 8 #[.int .i64 c] w fun e w' => e = .returned (.string (codeB c)) ∧ Gr w w' := by
  by_cases hb : inB c 0 8 = true
  · have hb2 : 0 ≤ c ∧ c ≤ 8 := by simpa [inB] using hb
    obtain ⟨k, rfl⟩ := Int.eq_ofNat_of_zero_le hb2.1
    have hk : k < 9 := by omega
    have hv : codeB (k : Int) = cnB k := by unfold codeB; rw [if_pos (by omega)]; simp
    have h1 : ∀ w', Calls Tryd.prog 22 #[.int .i64 (k : Int), .int .i64 0, .int .i64 8] w' fun e w'' => e = .returned (.bool true) ∧ Gr w' w'' := fun w' => in_t _ _ _ w' hb
    clear hb hb2
    go_enter Tryd.func8, Tryd.ntmps8
    go_wp2_with fail
    refine (h1 _).mono ?_
    rintro e w1 ⟨rfl, hg⟩
    have X := hid (hg.keep (alloc1 (w := w) (A := .cells cnC 9) (Gr.refl _)).1)
    have hc : w1.cell? ⟨w.heap.size, k, none⟩ = some (.string (cnB k)) := by simp only [World.cell?, X.out]; exact cnC_get k hk
    have G := hid (((Gr.refl w).al (.cells cnC 9)).trans hg)
    clear hg X
    go_wp2
    go_ret
    exact ⟨by first | rfl | (rw [hv]; rfl), G.out⟩
  · have hb2 : ¬ (0 ≤ c ∧ c < 9) := fun h => hb (by simp [inB]; omega)
    have hv : codeB c = ⟨#[]⟩ := by unfold codeB; rw [if_neg hb2]
    have h1 : ∀ w', Calls Tryd.prog 22 #[.int .i64 c, .int .i64 0, .int .i64 8] w' fun e w'' => e = .returned (.bool false) ∧ Gr w' w'' := fun w' => in_f _ _ _ w' (by simpa using hb)
    clear hb hb2
    go_enter Tryd.func8, Tryd.ntmps8
    go_wp2_with fail
    refine (h1 _).mono ?_
    rintro e w1 ⟨rfl, hg⟩
    have G := hid (((Gr.refl w).al (.cells cnC 9)).trans hg)
    clear hg
    go_wp2
    go_ret
    exact ⟨by first | rfl | (rw [hv]; rfl), G.out⟩
theorem bothCodeName (c : Int) : ∃ S : ByteArray, (∀ w, Calls Tryd.prog 8 #[.int .i64 c] w fun e w' => e = .returned (.string S) ∧ Gr w w') ∧ (∀ w, Hid (CnAt w) → Calls Tryd.prog 9 #[.int .i64 c] w fun e w' => e = .returned (.string S) ∧ Gr w w') :=
  ⟨codeB c, fun w => sCN c w, fun w H => iCN c w H⟩
end Go.Proofs.YtfpcbgfcachlgaaDoor
