/- slices.Concat of two slices of fractions: a slice of its own. -/
import Derived.Test.YtgfopfomhgfcaaaGreatDoorCz
namespace Go.Proofs.YtgfopfomhgfcaaaGreatDoor
open Go.RowKit Go.Sort

set_option maxRecDepth 20000 in
set_option maxHeartbeats 1000000 in
theorem iGrowF (n : Nat) (w : World) (hn : n ≤ 4000) :
    Calls Tryz.prog 157 #[.slice none 0 0, .int .i64 (n : Int)] w fun e w' => ∃ A c, e = .returned (.slice A 0 c) ∧ w'.ownsRow w.heap.size 34 2 (.slice A 0 c) 0 [] ∧ Gr w w' := by
  obtain ⟨i0, hi, iz0, iz1, iz2⟩ : ∃ i, Tryz.prog.info? 34 = some i ∧ i.zero = some (fr 0 0) ∧ i.size = 2 ∧ i.bytes = 16 := ⟨_, rfl, rfl, rfl, rfl⟩
  by_cases h0 : n = 0
  · subst h0
    go_enter Tryz.func157, Tryz.ntmps157
    go_wp2_with fail
    go_ret
    exact ⟨none, 0, rfl, World.ownsRow_nil _ _ _ _, Gr.refl _⟩
  · have hpos : 0 < n := by omega
    have hr : ∀ (ty : TypeId), (Builtin.append_ #[35, 3] ty #[.slice none 0 0, .int .i64 (n : Int)]).run Tryz.prog w = _ := fun ty => Lib.run_append_nil_zeros w 35 3 ty 34 i0 (fr 0 0) .i64 .i64 Tryz.underlying35 Tryz.underlying3 hi iz0 n hpos (by rw [iz1]; decide) (by omega) (by rw [iz2]; omega)
    have hcap := grownCap_ge w n 0 34
    have hcap2 := grownCap_le_maxLen w n 0 34 (by unfold maxLen; omega)
    generalize hG : grownCap w n 0 34 = G at *
    have hG63 : G ≤ 9223372036854775807 := by unfold maxLen at hcap2; exact hcap2
    have HR := hid hr; clear hr
    have HN := hid h0
    clear h0 hG
    go_enter Tryz.func157, Tryz.ntmps157
    go_wp2_with (at_builtin; refine Lib.wpList_append_run _ rfl _ _ _ _ rfl _ _ rfl rfl _ _ (HR.out _) ?_)
    go_ret
    refine ⟨_, _, rfl, ?_, ?_⟩
    · exact World.ownsRow_made w.drew _ G (by simp) (by unfold maxLen; omega) (by simp [Builtin.zeroCells]; omega)
    · exact (Gr.drew _).al _
set_option maxRecDepth 20000 in
set_option maxHeartbeats 2000000 in
theorem iConcatF (k m1 m2 c1 c2 : Nat) (A1 A2 : Option Addr) (us vs : List Value) (T : TypeId) (w : World) (X : Hid (w.heap[k]? = some (.cells #[.slice A1 m1 c1, .slice A2 m2 c2] T))) (U : Hid (RdV w A1 us)) (V : Hid (RdV w A2 vs)) (hu : Hid (us.length = m1 * 2)) (hv : Hid (vs.length = m2 * 2)) (h1 : m1 ≤ 2000) (h2 : m2 ≤ 2000)
    (hu1 : ∀ u ∈ us, u.oneCell' = true) (hv1 : ∀ u ∈ vs, u.oneCell' = true) :
    Calls Tryz.prog 124 #[.slice (some ⟨k, 0, none⟩) 2 2] w fun e w' => ∃ A c, e = .returned (.slice A (m1 + m2) c) ∧ w'.ownsRow w.heap.size 34 2 (.slice A (m1 + m2) c) (m1 + m2) (us ++ vs) ∧ Gr w w' := by
  have HU1 := hid hu1; have HV1 := hid hv1; clear hu1 hv1
  obtain ⟨i0, hi, iz0, iz1, iz2⟩ : ∃ i, Tryz.prog.info? 34 = some i ∧ i.zero = some (fr 0 0) ∧ i.size = 2 ∧ i.bytes = 16 := ⟨_, rfl, rfl, rfl, rfl⟩
  obtain ⟨_, _⟩ := cells2 X.out
  go_enter Tryz.func124, Tryz.ntmps124
  go_wp2_with fail
  go_loopw [3, 11] (fun s u wr => ∃ (i : Nat), u = .int .i64 (i : Int) ∧ i ≤ 2 ∧ s = .int .i64 (if i = 0 then 0 else if i = 1 then (m1 : Int) else (m1 : Int) + (m2 : Int)) ∧ w = wr) (fun _ u _ => 2 - (intOf u).toNat)
  case atStart => exact ⟨0, rfl, by omega, rfl, rfl⟩
  case round =>
    obtain ⟨i, rfl, hi2, rfl, rfl⟩ := hrel
    rcases (show i = 0 ∨ i = 1 ∨ i = 2 by omega) with rfl | rfl | rfl
    · go_wp2_with fail
      exact ⟨⟨1, by simp, by omega, by simp, by simp⟩, by simp [intOf]⟩
    · go_wp2_with fail
      exact ⟨⟨2, by simp, by omega, by simp, by simp⟩, by simp [intOf]⟩
    · go_wp2_with fail
      refine (iGrowF (m1 + m2) _ (by omega)).mono ?_
      rintro e w1 ⟨A0, c0, rfl, own, hg⟩
      have OWN := hid own; have G1 := hid hg
      obtain ⟨_, _⟩ := cells2 (hg.keep X.out)
      clear own hg
      go_wp2_with fail
      go_loopw [6, 27] (fun s u wr => ∃ (i : Nat) (A : Option Addr) (c : Nat), u = .int .i64 (i : Int) ∧ i ≤ 2 ∧ s = .slice A (if i = 0 then 0 else if i = 1 then m1 else m1 + m2) c ∧ Gr w wr ∧ wr.ownsRow w.heap.size 34 2 (.slice A (if i = 0 then 0 else if i = 1 then m1 else m1 + m2) c) (if i = 0 then 0 else if i = 1 then m1 else m1 + m2) (if i = 0 then [] else if i = 1 then us else us ++ vs)) (fun _ u _ => 2 - (intOf u).toNat)
      case atStart => exact ⟨0, _, _, rfl, by omega, rfl, G1.out, OWN.out⟩
      case round =>
        obtain ⟨i, A, c, rfl, hi2, rfl, hg, hown⟩ := hrel
        have G2 := hid hg; have OWN2 := hid hown
        have hsz := hg.size
        obtain ⟨_, _⟩ := cells2 (hg.keep X.out)
        clear hg hown OWN
        rcases (show i = 0 ∨ i = 1 ∨ i = 2 by omega) with rfl | rfl | rfl
        · have OWN3 := hid (show wr.ownsRow w.heap.size 34 2 (.slice A 0 c) 0 ([] : List Value) from OWN2.out)
          have hle := own_le OWN3.out
          clear OWN2
          by_cases hm : m1 = 0
          · have e0 : us = [] := List.length_eq_zero_iff.1 (by have := hu.out; rw [hm] at this; simpa using this)
            have HM := hid hm; clear hm
            have OWN4 := hid (show wr.ownsRow w.heap.size 34 2 (.slice A (m1) c) (m1) (us) by have h := OWN3.out; rw [e0, HM.out]; simpa using h)
            have E0 := hid e0; clear e0
            go_wp2_with (at_builtin; refine wpList_append_zero rfl _ _ 35 rfl 34 i0 Tryz.underlying35 hi A (0) c hle A1 m1 c1 HM.out rfl rfl ?_)
            exact ⟨⟨1, A, c, by simp, by omega, by simp, G2.out, OWN4.out⟩, by simp [intOf]⟩
          · rcases (U.out.keep G2.out) with h0 | ⟨ad, rfl, hcl⟩
            · exact absurd (by have := hu.out; rw [h0] at this; simp at this; omega) hm
            have HC := hid hcl; have HM := hid hm; have hpos : 0 < m1 := by omega
            clear hcl hm
            go_wp2_with (at_builtin; refine (wpList_append_gr rfl _ _ 35 rfl w.heap.size 34 i0 (fr 0 0) 2 16 Tryz.underlying35 hi iz0 iz1 iz2 rfl (by decide) _ 0 _ rfl OWN3.out ad m1 c1 us rfl hu.out HC.out HU1.out hpos (by unfold maxLen; omega) (by omega) hsz ?_))
            intro v' w4 own4 _ _ hgr
            obtain ⟨A2', c2', rfl⟩ := own_form own4
            have OWN4 := hid own4
            have G4 := hid (hgr _ G2.out (Nat.le_refl _))
            clear own4 hgr OWN3
            go_wp2_with fail
            exact ⟨⟨1, A2', c2', by simp, by omega, by simp, G4.out, by simpa using OWN4.out⟩, by simp [intOf]⟩
        · have OWN3 := hid (show wr.ownsRow w.heap.size 34 2 (.slice A m1 c) m1 us from OWN2.out)
          have hle := own_le OWN3.out
          clear OWN2
          by_cases hm : m2 = 0
          · have e0 : vs = [] := List.length_eq_zero_iff.1 (by have := hv.out; rw [hm] at this; simpa using this)
            have HM := hid hm; clear hm
            have OWN4 := hid (show wr.ownsRow w.heap.size 34 2 (.slice A (m1 + m2) c) (m1 + m2) (us ++ vs) by have h := OWN3.out; rw [e0, HM.out]; simpa using h)
            have E0 := hid e0; clear e0
            go_wp2_with (at_builtin; refine wpList_append_zero rfl _ _ 35 rfl 34 i0 Tryz.underlying35 hi A (m1) c hle A2 m2 c2 HM.out rfl rfl ?_)
            exact ⟨⟨2, A, c, by simp, by omega, by simp, G2.out, OWN4.out⟩, by simp [intOf]⟩
          · rcases (V.out.keep G2.out) with h0 | ⟨ad, rfl, hcl⟩
            · exact absurd (by have := hv.out; rw [h0] at this; simp at this; omega) hm
            have HC := hid hcl; have HM := hid hm; have hpos : 0 < m2 := by omega
            clear hcl hm
            go_wp2_with (at_builtin; refine (wpList_append_gr rfl _ _ 35 rfl w.heap.size 34 i0 (fr 0 0) 2 16 Tryz.underlying35 hi iz0 iz1 iz2 rfl (by decide) _ m1 _ rfl OWN3.out ad m2 c2 vs rfl hv.out HC.out HV1.out hpos (by unfold maxLen; omega) (by omega) hsz ?_))
            intro v' w4 own4 _ _ hgr
            obtain ⟨A2', c2', rfl⟩ := own_form own4
            have OWN4 := hid own4
            have G4 := hid (hgr _ G2.out (Nat.le_refl _))
            clear own4 hgr OWN3
            go_wp2_with fail
            exact ⟨⟨2, A2', c2', by simp, by omega, by simp, G4.out, by simpa using OWN4.out⟩, by simp [intOf]⟩
        · have OWN3 := hid (show wr.ownsRow w.heap.size 34 2 (.slice A (m1 + m2) c) (m1 + m2) (us ++ vs) from OWN2.out)
          go_wp2_with fail
          go_ret
          exact ⟨A, c, rfl, OWN3.out, G2.out⟩
theorem flatL_cell1 (xs : List (Int × Int)) : ∀ u ∈ flatL xs, u.oneCell' = true := by
  intro u hu
  unfold flatL at hu
  simp only [List.mem_flatMap] at hu
  obtain ⟨x, _, hx⟩ := hu
  simp only [List.mem_cons, List.not_mem_nil, or_false] at hx
  rcases hx with rfl | rfl <;> rfl
theorem rdV_of {w : World} {A : Option Addr} {xs : List (Int × Int)} (X : RdF w A xs) : RdV w A (flatL xs) := by
  cases xs with
  | nil => exact .inl rfl
  | cons x r =>
    obtain ⟨ad, rfl, _⟩ := X 0 x.1 x.2 rfl
    exact .inr ⟨ad, rfl, flat_news X⟩
set_option maxRecDepth 20000 in
set_option maxHeartbeats 400000 in
theorem ifracs (a b : Int) (A : Option Addr) (c : Nat) (xs : List (Int × Int)) (w : World) (X : Hid (RdF w A xs)) (hn : xs.length ≤ 1000) :
    Calls Tryz.prog 86 #[scl a b A xs.length c] w fun e w' => ∃ A' c', e = .returned (.slice A' (1 + xs.length) c') ∧ w'.ownsRow w.heap.size 34 2 (.slice A' (1 + xs.length) c') (1 + xs.length) (flatL ((a, b) :: xs)) ∧ Gr w w' := by
  go_enter Tryz.func86, Tryz.ntmps86
  go_wp2_with fail
  have hU := one_newsF (w := ((w.alloc (.cells #[.int .i64 a, .int .i64 b, .slice A xs.length c] 37)).alloc (.cells #[.int .i64 a, .int .i64 b] 34)).alloc (.cells #[.slice (some ⟨w.heap.size + 1, 0, none⟩) 1 1, .slice A xs.length c] 35)) (b := w.heap.size + 1) (alloc3 (Gr.refl _)).2.1
  refine (iConcatF (w.heap.size + 1 + 1) 1 xs.length 1 c (some ⟨w.heap.size + 1, 0, none⟩) A [.int .i64 a, .int .i64 b] (flatL xs) 35 _ (hid (alloc3 (Gr.refl _)).2.2.1) (hid (.inr ⟨_, rfl, hU⟩)) (hid (rdV_of (X.out.keep ((((Gr.refl w).al _).al _).al _)))) (hid rfl) (hid (flatL_len xs)) (by omega) (by omega) (by simp [Value.oneCell']) (flatL_cell1 xs)).mono ?_
  rintro e w1 ⟨A', c', rfl, own, hg⟩
  have OWN := hid (own_base own (show w.heap.size ≤ _ by simp; omega)); have G1 := hid (((((Gr.refl w).al _).al _).al _).trans hg)
  clear own hg hU
  go_wp2_with fail
  go_ret
  exact ⟨A', c', rfl, OWN.out, G1.out⟩
end Go.Proofs.YtgfopfomhgfcaaaGreatDoor
