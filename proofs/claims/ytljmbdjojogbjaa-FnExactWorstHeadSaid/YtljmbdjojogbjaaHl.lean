/- WALKS: WorstHead, of the program. -/
import Derived.Test.YtljmbdjojogbjaaHc
import Derived.Test.YtljmbdjojogbjaaD
namespace Go.Proofs.Ytljmbdjojogbjaa
open Go.RowKit Go.Sort

/-- By how much an angle is read off; the worst of the first k angles, and which. -/
def wOff (H : Int → Int) (a : Int) : Int := ((turnI a (H a)).natAbs : Int)
def wV (H : Int → Int) (gs : List Int) : Nat → Int
  | 0 => 0
  | k + 1 => if wV H gs k < wOff H (gs.getD k 0) then wOff H (gs.getD k 0) else wV H gs k
def wA (H : Int → Int) (gs : List Int) : Nat → Int
  | 0 => gs.getD 0 0
  | k + 1 => if wV H gs k < wOff H (gs.getD k 0) then gs.getD k 0 else wA H gs k
def codeW (xs : List Int) (e no l : Int) (gs : List Int) : Int := if codeR xs e no l gs = 0 then (if inB (gs.length : Int) 1 72 = true then 0 else 2) else codeR xs e no l gs
theorem codeW_zero {xs : List Int} {e no l : Int} {gs : List Int} (h : codeW xs e no l gs = 0) : codeR xs e no l gs = 0 ∧ 1 ≤ gs.length ∧ gs.length ≤ 72 := by
  unfold codeW at h
  by_cases h1 : codeR xs e no l gs = 0
  · rw [if_pos h1] at h
    by_cases h2 : inB (gs.length : Int) 1 72 = true
    · unfold inB at h2
      simp at h2
      exact ⟨h1, by omega, by omega⟩
    · rw [if_neg h2] at h; cases h
  · rw [if_neg h1] at h; exact absurd h h1
theorem wOff_bd (H : Int → Int) (a : Int) : 0 ≤ wOff H a ∧ wOff H a ≤ 648000 := by
  have := turn_bd a (H a)
  unfold wOff
  omega
theorem wV_bd (H : Int → Int) (gs : List Int) : ∀ k, 0 ≤ wV H gs k ∧ wV H gs k ≤ 648000
  | 0 => by simp [wV]
  | k + 1 => by
    have h := wV_bd H gs k
    have o := wOff_bd H (gs.getD k 0)
    simp only [wV]
    split <;> omega
theorem wV_yes {H : Int → Int} {gs : List Int} {k : Nat} (h : wV H gs k < wOff H (gs.getD k 0)) : wV H gs (k + 1) = wOff H (gs.getD k 0) ∧ wA H gs (k + 1) = gs.getD k 0 := by
  simp only [wV, wA]; exact ⟨if_pos h, if_pos h⟩
theorem wV_no {H : Int → Int} {gs : List Int} {k : Nat} (h : ¬ wV H gs k < wOff H (gs.getD k 0)) : wV H gs (k + 1) = wV H gs k ∧ wA H gs (k + 1) = wA H gs k := by
  simp only [wV, wA]; exact ⟨if_neg h, if_neg h⟩
set_option maxRecDepth 20000 in
set_option maxHeartbeats 1000000 in
theorem iWorst_code (A A2 : Option Addr) (c c2 : Nat) (xs gs : List Int) (e no l C : Int) (w : World) (X : Hid (RdH w A xs)) (X2 : Hid (RdI w A2 gs)) (hn : xs.length ≤ 1048576) (hh : xs.all okH = true) (hm : gs.length ≤ 1048576) (hC : codeR xs e no l gs = C) (h0 : C ≠ 0) :
    Calls Try.prog 11 #[dk A xs.length c e no, .slice A2 gs.length c2, .int .i64 l] w fun x w' => x = .returned (.tuple #[.int .i64 0, .int .i64 0, .int .i64 C]) ∧ Gr w w' := by
  have HK := hid fun w' (hg : Gr w w') => iCheckR A A2 c c2 xs gs e no l w' (hid (X.out.keep hg)) (hid (X2.out.keep hg)) hn hh hm
  rw [hC] at HK
  have c2 : ((C : Int) != 0) = true := by simpa using h0
  clear hh hC h0
  go_enter Try.func11, Try.ntmps11
  go_wp2_with fail
  refine (HK.out _ ((Gr.refl w).al _)).mono ?_
  rintro e w1 ⟨rfl, hg1⟩
  obtain ⟨x1_0, hz1, g1⟩ := alloc1 hg1
  obtain ⟨_, _, _⟩ := cells3 x1_0
  have _ := fz x1_0
  have _ := ltb x1_0
  have X1_0 := hid x1_0; clear x1_0
  have G1 := hid (g1)
  clear hg1 g1
  go_wp2_with fail
  refine bodyPost_ret (v := .tuple #[.int .i64 0, .int .i64 0, .int .i64 C]) (by simp [results, Try.results11, go_sem, *]) rfl ⟨rfl, G1.out⟩
set_option maxRecDepth 20000 in
set_option maxHeartbeats 1000000 in
theorem iWorst_many (A A2 : Option Addr) (c c2 : Nat) (xs gs : List Int) (e no l : Int) (w : World) (X : Hid (RdH w A xs)) (X2 : Hid (RdI w A2 gs)) (hn : xs.length ≤ 1048576) (hh : xs.all okH = true) (hm : gs.length ≤ 1048576) (hC : codeR xs e no l gs = 0) (h0 : inB (gs.length : Int) 1 72 = false) :
    Calls Try.prog 11 #[dk A xs.length c e no, .slice A2 gs.length c2, .int .i64 l] w fun x w' => x = .returned (.tuple #[.int .i64 0, .int .i64 0, .int .i64 2]) ∧ Gr w w' := by
  have HK := hid fun w' (hg : Gr w w') => iCheckR A A2 c c2 xs gs e no l w' (hid (X.out.keep hg)) (hid (X2.out.keep hg)) hn hh hm
  rw [hC] at HK
  have hl : (gs.length : Int) < 1 ∨ 72 < (gs.length : Int) := by unfold inB at h0; simp at h0; omega
  clear hh hC h0
  rcases hl with hl | hl
  · go_enter Try.func11, Try.ntmps11
    go_wp2_with fail
    refine (HK.out _ ((Gr.refl w).al _)).mono ?_
    rintro e w1 ⟨rfl, hg1⟩
    obtain ⟨x1_0, hz1, g1⟩ := alloc1 hg1
    obtain ⟨_, _, _⟩ := cells3 x1_0
    have _ := fz x1_0
    have _ := ltb x1_0
    have X1_0 := hid x1_0; clear x1_0
    have G1 := hid (g1)
    clear hg1 g1
    go_wp2_with fail
    refine bodyPost_ret (v := .tuple #[.int .i64 0, .int .i64 0, .int .i64 2]) (by simp [results, Try.results11, go_sem, *]) rfl ⟨rfl, G1.out⟩
  · go_enter Try.func11, Try.ntmps11
    go_wp2_with fail
    refine (HK.out _ ((Gr.refl w).al _)).mono ?_
    rintro e w1 ⟨rfl, hg1⟩
    obtain ⟨x1_0, hz1, g1⟩ := alloc1 hg1
    obtain ⟨_, _, _⟩ := cells3 x1_0
    have _ := fz x1_0
    have _ := ltb x1_0
    have X1_0 := hid x1_0; clear x1_0
    have G1 := hid (g1)
    clear hg1 g1
    go_wp2_with fail
    refine bodyPost_ret (v := .tuple #[.int .i64 0, .int .i64 0, .int .i64 2]) (by simp [results, Try.results11, go_sem, *]) rfl ⟨rfl, G1.out⟩
set_option maxRecDepth 20000 in
set_option maxHeartbeats 1000000 in
theorem iWorst_yes (A A2 : Option Addr) (c c2 : Nat) (xs gs : List Int) (e no l : Int) (w : World) (X : Hid (RdH w A xs)) (X2 : Hid (RdI w A2 gs)) (hn : xs.length ≤ 1048576) (hh : xs.all okH = true) (hc : xs.length ≤ c) (hC : codeW xs e no l gs = 0) :
    Calls Try.prog 11 #[dk A xs.length c e no, .slice A2 gs.length c2, .int .i64 l] w fun x w' => x = .returned (.tuple #[.int .i64 (wV (headF xs e no l) gs gs.length), .int .i64 (wA (headF xs e no l) gs gs.length), .int .i64 0]) ∧ Gr w w' := by
  obtain ⟨hC, n1, n2⟩ := codeW_zero hC
  have HK := hid fun w' (hg : Gr w w') => iCheckR A A2 c c2 xs gs e no l w' (hid (X.out.keep hg)) (hid (X2.out.keep hg)) hn hh (by omega)
  obtain ⟨hR, ha⟩ := codeR_zero hC
  have HRD := hid fun a bl bk bd m w' (a1 : 0 ≤ a) (a2 : a < 1296000) (hx : Hid (RdH w' A xs)) hr => iReaderF A c xs e no l a bl bk bd m w' hx hR hc a1 a2 hr
  have HHB := hid fun a => headF_bd (xs := xs) (e := e) (no := no) (l := l) (a := a)
  have HA := hid ha
  rw [hC] at HK
  generalize headF xs e no l = H at *
  clear hh hC hR ha
  obtain ⟨ad, hA2, _⟩ := X2.out 0 gs[0] (List.getElem?_eq_getElem _)
  subst hA2
  go_enter Try.func11, Try.ntmps11
  go_wp2_with fail
  refine (HK.out _ ((Gr.refl w).al _)).mono ?_
  rintro e w1 ⟨rfl, hg1⟩
  obtain ⟨x1_0, hz1, g1⟩ := alloc1 hg1
  obtain ⟨_, _, _⟩ := cells3 x1_0
  have _ := fz x1_0
  have _ := ltb x1_0
  have X1_0 := hid x1_0; clear x1_0
  have G1 := hid (g1)
  clear hg1 g1
  go_wp2_with fail
  refine (iReaderOf H A xs.length c e no l _).mono ?_
  rintro x w2 ⟨bl, bk, bd, m, rfl, hr, hm, hg2⟩
  have RR := hid hr; have G2 := hid (G1.out.trans hg2); have hs1 := G1.out.size
  have HM := hid (Nat.le_trans hs1 hm)
  clear hr hg2 hm
  obtain ⟨ad', e', c1⟩ := (X2.out.keep G2.out) 0 gs[0] (List.getElem?_eq_getElem _)
  cases e'
  have c0 : w2.cell? ad = some (.int .i64 gs[0]) := by simpa [Addr.add] using c1
  go_wp2_with fail
  refine wp_reg0 4 (by kernel_rfl) (by kernel_rfl) ?_
  apply Exists.intro
  refine ⟨fun wb hb => ?_, ?_⟩
  · have _ := hb.atA c0
    simp only [headOps, List.contains, List.elem, reduceIte, Bool.false_eq_true]
    repeat (first | go_big_quiet_step (first | (fail)) | quiet_step (fail))
    exact wpQuiet_nil rfl
  intro w3 hg3
  have R3 := hid (RR.out.keep hg3); have G3 := hid (G2.out.trans hg3)
  clear hg3 c1 c0
  go_wp2_with fail
  go_loopw [11, 12, 39] (fun v a u wr => ∃ (k : Nat), u = .int .i64 (k : Int) ∧ v = .int .i64 (wV H gs k) ∧ a = .int .i64 (wA H gs k) ∧ k ≤ gs.length ∧ Gr w wr ∧ Rdr wr H l #[.slice A xs.length c, .int .i64 e, .int .i64 no] bl bk bd m) (fun _ _ u _ => gs.length - (intOf u).toNat)
  case atStart => exact ⟨0, rfl, rfl, by simp [wA, List.getD_eq_getElem?_getD, List.getElem?_eq_getElem (show 0 < gs.length by omega)], by omega, G3.out, R3.out⟩
  case round =>
    obtain ⟨k, rfl, rfl, rfl, hk, hg, hrr⟩ := hrel
    have HG := hid hg; have YR := hid hrr
    clear hg hrr
    obtain ⟨v1, v2⟩ := wV_bd H gs k
    by_cases hlt : k < gs.length
    · obtain ⟨p, hp⟩ : ∃ p, gs[k]? = some p := ⟨gs[k], List.getElem?_eq_getElem _⟩
      obtain ⟨a1, a2⟩ := ang_bd (allI_get hp HA.out)
      obtain ⟨h1, h2⟩ := HHB.out p
      have hgd : gs.getD k 0 = p := by rw [List.getD_eq_getElem?_getD, hp]; rfl
      obtain ⟨ad2, e2, c1⟩ := (X2.out.keep HG.out) k p hp
      cases e2
      have hen := enR p bl bk bd
      have ho := turn_bd p (H p)
      have HO : Hid (wOff H p = ((turnI p (H p)).natAbs : Int)) := rfl
      clear hp
      by_cases hx : wV H gs k < wOff H p
      · have hgt : gtB (turnI p (H p)) (wV H gs k) = true := by
          rw [HO.out] at hx; unfold gtB; simp; omega
        have hy := hid (wV_yes (H := H) (gs := gs) (k := k) (by rw [hgd]; exact hx))
        rw [hgd] at hy
        clear hx
        go_wp2_with fail
        refine (HRD.out p bl bk bd m _ a1 (by omega) (hid (X.out.keep HG.out)) YR.out).mono ?_
        rintro x w4 ⟨rfl, hr4, ho4⟩
        have G4 := hid (ho4.2 w HG.out HM.out)
        have R4 := hid hr4
        clear ho4 hr4
        go_wp2_with (first | (go_at_call 34; refine (iturn _ _ _ (by omega) (by omega) (by omega) (by omega)).mono ?_; rintro x w5 ⟨rfl, rfl⟩) | (go_at_call 35; refine (gt_any _ _ _ v1 (by omega)).mono ?_; rintro x w5 ⟨rfl, rfl⟩; rw [hgt]))
        refine ⟨⟨k + 1, by simp, ?_, ?_, by omega, G4.out, R4.out⟩, by simp [intOf]; omega⟩
        · rw [hy.out.1, HO.out]
          congr 1
          split <;> omega
        · rw [hy.out.2]
      · have hgt : gtB (turnI p (H p)) (wV H gs k) = false := by
          rw [HO.out] at hx; unfold gtB; simp; omega
        have hy := hid (wV_no (H := H) (gs := gs) (k := k) (by rw [hgd]; exact hx))
        clear hx
        go_wp2_with fail
        refine (HRD.out p bl bk bd m _ a1 (by omega) (hid (X.out.keep HG.out)) YR.out).mono ?_
        rintro x w4 ⟨rfl, hr4, ho4⟩
        have G4 := hid (ho4.2 w HG.out HM.out)
        have R4 := hid hr4
        clear ho4 hr4
        go_wp2_with (first | (go_at_call 34; refine (iturn _ _ _ (by omega) (by omega) (by omega) (by omega)).mono ?_; rintro x w5 ⟨rfl, rfl⟩) | (go_at_call 35; refine (gt_any _ _ _ v1 (by omega)).mono ?_; rintro x w5 ⟨rfl, rfl⟩; rw [hgt]))
        exact ⟨⟨k + 1, by simp, by rw [hy.out.1], by rw [hy.out.2], by omega, G4.out, R4.out⟩, by simp [intOf]; omega⟩
    · have hke : k = gs.length := by omega
      subst hke
      go_wp2_with fail
      refine bodyPost_ret (v := .tuple #[.int .i64 (wV H gs gs.length), .int .i64 (wA H gs gs.length), .int .i64 0]) (by simp [results, Try.results11, go_sem, *]) rfl ⟨rfl, HG.out⟩
end Go.Proofs.Ytljmbdjojogbjaa
