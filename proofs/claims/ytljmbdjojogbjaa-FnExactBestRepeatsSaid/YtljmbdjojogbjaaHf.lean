/- WALKS: RepeatAngle, of the program and of the reference. -/
import Derived.Test.YtljmbdjojogbjaaHe
import Derived.Test.YtljmbdjojogbjaaRegO
namespace Go.Proofs.Ytljmbdjojogbjaa
open Go.RowKit Go.Sort

/-- The code of a disk, two angles, a number of times and a unit. -/
def codeP (xs : List Int) (e no s g t l : Int) : Int := if codeR xs e no l [s, g] = 0 then (if inB t 1 200 = true then 0 else 2) else codeR xs e no l [s, g]
theorem codeP_zero {xs : List Int} {e no s g t l : Int} (h : codeP xs e no s g t l = 0) : Rding xs e no l ∧ RpB s g t := by
  unfold codeP at h
  by_cases h1 : codeR xs e no l [s, g] = 0
  · rw [if_pos h1] at h
    obtain ⟨hR, ha⟩ := codeR_zero h1
    simp only [List.all_cons, List.all_nil, Bool.and_true, Bool.and_eq_true] at ha
    obtain ⟨s1, s2⟩ := ang_bd ha.1
    obtain ⟨g1, g2⟩ := ang_bd ha.2
    by_cases h2 : inB t 1 200 = true
    · unfold inB at h2
      simp at h2
      exact ⟨hR, s1, s2, g1, g2, h2.1, h2.2⟩
    · rw [if_neg h2] at h; cases h
  · rw [if_neg h1] at h; exact absurd h h1
theorem codeR_two {xs : List Int} {e no l s g : Int} : codeR xs e no l [s, g] = if ((dkB xs e no && angB s) && angB g) = true then (if inB l 1 3600 = true then 0 else 2) else 1 := by
  unfold codeR
  simp [Bool.and_assoc]
set_option maxRecDepth 20000 in
set_option maxHeartbeats 1000000 in
theorem iCheckP (A : Option Addr) (c : Nat) (xs : List Int) (e no s g t l : Int) (w : World) (X : Hid (RdH w A xs)) (hn : xs.length ≤ 1048576) (hh : xs.all okH = true) :
    Calls Try.prog 43 #[dk A xs.length c e no, .int .i64 s, .int .i64 g, .int .i64 t, .int .i64 l] w fun x w' => x = .returned (.int .i64 (codeP xs e no s g t l)) ∧ Gr w w' := by
  have HK := hid fun w' (hg : Gr w w') (X2 : Hid (RdI w' (some ⟨w.heap.size + 1, 0, none⟩) [s, g])) => iCheckR A (some ⟨w.heap.size + 1, 0, none⟩) c 2 xs [s, g] e no l w' (hid (X.out.keep hg)) X2 hn hh (by simp)
  obtain ⟨r, hr⟩ : ∃ r, codeP xs e no s g t l = r := ⟨_, rfl⟩
  rw [hr]
  unfold codeP at hr
  generalize codeR xs e no l [s, g] = k at *
  clear hh
  by_cases h0 : k = 0
  · rw [if_pos h0] at hr
    subst h0
    by_cases k1 : t < 1
    · have e2 : inB t 1 200 = false := by unfold inB; simp; omega
      rw [e2, if_neg (by simp)] at hr
      subst hr
      go_enter Try.func43, Try.ntmps43
      go_wp2_with fail
      refine (HK.out _ (((Gr.refl w).al _).al _) (hid (RdI.of_block (xs := [s, g]) (alloc2 (Gr.refl _)).2.1))).mono ?_
      rintro e w1 ⟨rfl, hg1⟩
      obtain ⟨x1_0, x1_1, hz1, g1⟩ := alloc2 hg1
      obtain ⟨_, _, _⟩ := cells3 x1_0
      have _ := fz x1_0
      have _ := ltb x1_0
      obtain ⟨_, _⟩ := cells2 x1_1
      have _ := fz x1_1
      have _ := ltb x1_1
      have X1_0 := hid x1_0; clear x1_0
      have X1_1 := hid x1_1; clear x1_1
      have G1 := hid (g1)
      clear hg1 g1
      go_wp2
      go_ret
      exact ⟨rfl, G1.out⟩
    · by_cases k2 : 200 < t
      · have e2 : inB t 1 200 = false := by unfold inB; simp; omega
        rw [e2, if_neg (by simp)] at hr
        subst hr
        go_enter Try.func43, Try.ntmps43
        go_wp2_with fail
        refine (HK.out _ (((Gr.refl w).al _).al _) (hid (RdI.of_block (xs := [s, g]) (alloc2 (Gr.refl _)).2.1))).mono ?_
        rintro e w1 ⟨rfl, hg1⟩
        obtain ⟨x1_0, x1_1, hz1, g1⟩ := alloc2 hg1
        obtain ⟨_, _, _⟩ := cells3 x1_0
        have _ := fz x1_0
        have _ := ltb x1_0
        obtain ⟨_, _⟩ := cells2 x1_1
        have _ := fz x1_1
        have _ := ltb x1_1
        have X1_0 := hid x1_0; clear x1_0
        have X1_1 := hid x1_1; clear x1_1
        have G1 := hid (g1)
        clear hg1 g1
        go_wp2
        go_ret
        exact ⟨rfl, G1.out⟩
      · have e2 : inB t 1 200 = true := by unfold inB; simp; omega
        rw [e2, if_pos rfl] at hr
        subst hr
        go_enter Try.func43, Try.ntmps43
        go_wp2_with fail
        refine (HK.out _ (((Gr.refl w).al _).al _) (hid (RdI.of_block (xs := [s, g]) (alloc2 (Gr.refl _)).2.1))).mono ?_
        rintro e w1 ⟨rfl, hg1⟩
        obtain ⟨x1_0, x1_1, hz1, g1⟩ := alloc2 hg1
        obtain ⟨_, _, _⟩ := cells3 x1_0
        have _ := fz x1_0
        have _ := ltb x1_0
        obtain ⟨_, _⟩ := cells2 x1_1
        have _ := fz x1_1
        have _ := ltb x1_1
        have X1_0 := hid x1_0; clear x1_0
        have X1_1 := hid x1_1; clear x1_1
        have G1 := hid (g1)
        clear hg1 g1
        go_wp2
        go_ret
        exact ⟨rfl, G1.out⟩
  · rw [if_neg h0] at hr
    subst hr
    have c2 : ((k : Int) != 0) = true := by simpa using h0
    clear h0
    go_enter Try.func43, Try.ntmps43
    go_wp2_with fail
    refine (HK.out _ (((Gr.refl w).al _).al _) (hid (RdI.of_block (xs := [s, g]) (alloc2 (Gr.refl _)).2.1))).mono ?_
    rintro e w1 ⟨rfl, hg1⟩
    obtain ⟨x1_0, x1_1, hz1, g1⟩ := alloc2 hg1
    obtain ⟨_, _, _⟩ := cells3 x1_0
    have _ := fz x1_0
    have _ := ltb x1_0
    obtain ⟨_, _⟩ := cells2 x1_1
    have _ := fz x1_1
    have _ := ltb x1_1
    have X1_0 := hid x1_0; clear x1_0
    have X1_1 := hid x1_1; clear x1_1
    have G1 := hid (g1)
    clear hg1 g1
    go_wp2
    go_ret
    exact ⟨rfl, G1.out⟩
set_option maxRecDepth 20000 in
set_option maxHeartbeats 1000000 in
theorem sCheckP (b : Nat) (T : TypeId) (A : Option Addr) (c : Nat) (xs : List Int) (e no s g t l : Int) (w : World) (XB : Hid (w.heap[b]? = some (.cells #[.slice A xs.length c, .int .i64 e, .int .i64 no] T))) (X : Hid (RdH w A xs)) (hn : xs.length ≤ 1048576) (hh : xs.all okH = true) :
    Calls Try.prog 41 #[.pointer (some ⟨b, 0, none⟩), .int .i64 s, .int .i64 g, .int .i64 t, .int .i64 l] w fun x w' => x = .returned (.int .i64 (codeP xs e no s g t l)) ∧ w = w' := by
  have HO := hid (sDkOk b T A c xs e no w XB X hn hh)
  obtain ⟨r, hr⟩ : ∃ r, codeP xs e no s g t l = r := ⟨_, rfl⟩
  rw [hr]
  unfold codeP at hr
  rw [codeR_two] at hr
  clear hh
  cases hd : dkB xs e no with
  | false =>
    rw [hd] at HO hr
    simp at hr
    subst hr
    go_enter Try.func41, Try.ntmps41
    go_wp2_with fail
    refine HO.out.mono ?_
    rintro x w1 ⟨rfl, rfl⟩
    go_wp2_with fail
    go_ret
    exact ⟨rfl, rfl⟩
  | true =>
    rw [hd] at HO hr
    cases hs : angB s with
    | false =>
      rw [hs] at hr
      simp at hr
      subst hr
      go_enter Try.func41, Try.ntmps41
      go_wp2_with fail
      refine HO.out.mono ?_
      rintro x w1 ⟨rfl, rfl⟩
      go_wp2_with (go_at_call 26; refine (sang _ _).mono ?_; rintro x w2 ⟨rfl, rfl⟩; rw [hs])
      go_ret
      exact ⟨rfl, rfl⟩
    | true =>
      rw [hs] at hr
      cases hg : angB g with
      | false =>
        rw [hg] at hr
        simp at hr
        subst hr
        go_enter Try.func41, Try.ntmps41
        go_wp2_with fail
        refine HO.out.mono ?_
        rintro x w1 ⟨rfl, rfl⟩
        go_wp2_with (go_at_call 26; refine (sang _ _).mono ?_; rintro x w2 ⟨rfl, rfl⟩; first | rw [hs] | rw [hg])
        go_ret
        exact ⟨rfl, rfl⟩
      | true =>
        rw [hg] at hr
        cases hl : inB l 1 3600 with
        | false =>
          rw [hl] at hr
          simp at hr
          subst hr
          go_enter Try.func41, Try.ntmps41
          go_wp2_with fail
          refine HO.out.mono ?_
          rintro x w1 ⟨rfl, rfl⟩
          go_wp2_with (first | (go_at_call 26; refine (sang _ _).mono ?_; rintro x w2 ⟨rfl, rfl⟩; first | rw [hs] | rw [hg]) | (go_at_call 27; refine (in_any _ _ _ _).mono ?_; rintro x w2 ⟨rfl, rfl⟩; rw [hl]))
          go_ret
          exact ⟨rfl, rfl⟩
        | true =>
          rw [hl] at hr
          cases ht : inB t 1 200 with
          | false =>
            rw [ht] at hr
            simp at hr
            subst hr
            go_enter Try.func41, Try.ntmps41
            go_wp2_with fail
            refine HO.out.mono ?_
            rintro x w1 ⟨rfl, rfl⟩
            go_wp2_with (first | (go_at_call 26; refine (sang _ _).mono ?_; rintro x w2 ⟨rfl, rfl⟩; first | rw [hs] | rw [hg]) | (go_at_call 27; refine (in_any _ _ _ _).mono ?_; rintro x w2 ⟨rfl, rfl⟩; first | rw [hl] | rw [ht]))
            go_ret
            exact ⟨rfl, rfl⟩
          | true =>
            rw [ht] at hr
            simp at hr
            subst hr
            go_enter Try.func41, Try.ntmps41
            go_wp2_with fail
            refine HO.out.mono ?_
            rintro x w1 ⟨rfl, rfl⟩
            go_wp2_with (first | (go_at_call 26; refine (sang _ _).mono ?_; rintro x w2 ⟨rfl, rfl⟩; first | rw [hs] | rw [hg]) | (go_at_call 27; refine (in_any _ _ _ _).mono ?_; rintro x w2 ⟨rfl, rfl⟩; first | rw [hl] | rw [ht]))
            go_ret
            exact ⟨rfl, rfl⟩
set_option maxRecDepth 20000 in
set_option maxHeartbeats 1000000 in
theorem iRepeat (A : Option Addr) (c : Nat) (xs : List Int) (e no l s g t : Int) (bl bk bd m : Nat) (w : World) (X : Hid (RdH w A xs)) (h : Rding xs e no l) (hc : xs.length ≤ c) (hb : RpB s g t) (hr : Rdr w (headF xs e no l) l #[.slice A xs.length c, .int .i64 e, .int .i64 no] bl bk bd m) :
    Calls Try.prog 44 #[.func (.func 51) #[] #[.pointer (some ⟨bl, 0, none⟩), .pointer (some ⟨bk, 0, none⟩), .pointer (some ⟨bd, 0, none⟩)], .int .i64 s, .int .i64 g, .int .i64 t] w
      fun x w' => x = .returned (rpd g t (rpS (headF xs e no l) s g t) (rpK (headF xs e no l) s g t)) ∧ Rdr w' (headF xs e no l) l #[.slice A xs.length c, .int .i64 e, .int .i64 no] bl bk bd m ∧ Only m w w' := by
  obtain ⟨m1, m2⟩ := tg_bd hb
  obtain ⟨⟨b1, b2⟩, ⟨b3, b4⟩, b5, b6⟩ := rp_bd (H := headF xs e no l) hb
  obtain ⟨o1, o2⟩ := wrap_bd (s + t * g)
  obtain ⟨h1, h2⟩ := headF_bd (xs := xs) (e := e) (no := no) (l := l) (a := s)
  obtain ⟨h3, h4⟩ := headF_bd (xs := xs) (e := e) (no := no) (l := l) (a := wrapI (s + t * g))
  obtain ⟨_, _, _, _, _, _⟩ := hb
  have HRD := fun (a : Int) w' (a1 : 0 ≤ a) (a2 : a < 1296000) (hx : Hid (RdH w' A xs)) hr' => iReaderF A c xs e no l a bl bk bd m w' hx h hc a1 a2 hr'
  have eT : rpT (headF xs e no l) s g t = turnI (headF xs e no l s) (headF xs e no l (wrapI (s + t * g))) := rfl
  have eK : rpK (headF xs e no l) s g t = downI (2 * (t * g - rpT (headF xs e no l) s g t) + 1296000) (2 * 1296000) := rfl
  have eS : rpS (headF xs e no l) s g t = rpT (headF xs e no l) s g t + rpK (headF xs e no l) s g t * 1296000 := rfl
  generalize headF xs e no l = H at *
  generalize hT : rpT H s g t = T at *
  generalize hK : rpK H s g t = K at *
  generalize hS : rpS H s g t = Z at *
  have HRD := hid HRD
  have hen1 := enR s bl bk bd
  have hen2 := enR (wrapI (s + t * g)) bl bk bd
  have hnr : ∀ w', Calls Try.prog 55 #[.int .i64 (t * g - T), .int .i64 1296000] w' fun e w'' => e = .returned (.int .i64 K) ∧ w' = w'' := fun w' => by
    rw [eK]
    exact hnearDiv (t * g - T) 1296000 w' (by omega) (by omega) (by omega) (by omega)
  have htr : ∀ w', Calls Try.prog 34 #[.int .i64 (H s), .int .i64 (H (wrapI (s + t * g)))] w' fun e w'' => e = .returned (.int .i64 T) ∧ w' = w'' := fun w' => by
    rw [eT]
    exact iturn _ _ w' (by omega) (by omega) (by omega) (by omega)
  have HNR := hid hnr; have HTR := hid htr; have HRR := hid hr
  have ES := hid eS
  clear hnr htr hr h hT hK hS eT eK eS
  go_enter Try.func44, Try.ntmps44
  go_wp2_with fail
  refine (HRD.out s _ (by omega) (by omega) (hid (X.out.keep ((Gr.refl w).al _))) (HRR.out.keep ((Gr.refl w).al _))).mono ?_
  rintro x w1 ⟨rfl, hr1, ho1⟩
  obtain ⟨y0, y1, y2, y3⟩ := HRR.out.lts
  have hbne : w.heap.size ≠ m := by omega
  have XR := hid (ho1.heapKeep (alloc1 (Gr.refl (w.alloc (.cells #[.int .i64 0, .int .i64 0, .int .i64 0, .int .i64 0] 69)))).1 hbne)
  have R1 := hid hr1
  have O1 := hid (Only.gr ((Gr.refl w).al _) ho1)
  have X1 := hid (fun (W0 : World) h0 hb0 => (Only.gr ((Gr.refl w).al _) ho1).2 W0 h0 hb0)
  clear hr1 ho1 hen1
  go_wp2_with (go_at_call 39; refine (iplus _ _ _ (by omega) (by omega) (by omega) (by omega)).mono ?_; rintro x w4 ⟨rfl, rfl⟩)
  have XH1 : Hid (RdH w1 A xs) := hid (rdh_only X.out O1.out HRR.out)
  refine (HRD.out (wrapI (s + t * g)) _ (by omega) (by omega) XH1 R1.out).mono ?_
  rintro x w2 ⟨rfl, hr2, ho2⟩
  have XR2 := hid (ho2.heapKeep XR.out hbne)
  have R2 := hid hr2
  have O2 := hid (only_trans O1.out ho2)
  clear hr2 ho2 hen2
  obtain ⟨_, _, _, _⟩ := cells4 XR2.out
  have _ := fz XR2.out
  go_wp2_with (first | (go_at_call 34; refine (HTR.out _).mono ?_; rintro x w4 ⟨rfl, rfl⟩) | (go_at_call 55; refine (HNR.out _).mono ?_; rintro x w4 ⟨rfl, rfl⟩))
  rw [← ES.out]
  refine bodyPost_ret (v := rpd g t Z K) (by simp [results, Try.results44, go_sem, *]) rfl ⟨rfl, ?_, ?_⟩
  · exact HRR.out.setNew (HRR.out.setNew (HRR.out.setNew (HRR.out.setNew R2.out (Nat.le_refl _) _) (Nat.le_refl _) _) (Nat.le_refl _) _) (Nat.le_refl _) _
  · exact (((O2.out.setNew (Nat.le_refl _) _).setNew (Nat.le_refl _) _).setNew (Nat.le_refl _) _).setNew (Nat.le_refl _) _
set_option maxRecDepth 20000 in
set_option maxHeartbeats 1000000 in
theorem iMeanR (g t z k : Int) (w : World) (z1 : -1000000000 ≤ z) (z2 : z ≤ 1000000000) (t1 : 1 ≤ t) (t2 : t ≤ 1000000000) :
    Calls Try.prog 45 #[rpd g t z k] w fun x w' => x = .returned (.tuple #[fr (redP z t) (redQ z t), .int .i64 0]) ∧ Gr w w' := by
  obtain ⟨c0, c1, c2⟩ := rC_zero z1 z2 t1 t2
  have hm := fun w => iMakeR z t w (by omega) (by omega) t1 (by omega)
  rw [c0, c1, c2] at hm
  have HM := hid hm
  clear hm c0 c1 c2
  go_enter Try.func45, Try.ntmps45
  go_wp2_with fail
  refine (HM.out _).mono ?_
  rintro e w1 ⟨rfl, hg1⟩
  obtain ⟨x1_0, x1_1, hz1, g1⟩ := alloc2 hg1
  obtain ⟨_, _, _, _⟩ := cells4 x1_0
  have _ := fz x1_0
  have _ := ltb x1_0
  obtain ⟨_, _⟩ := cells2 x1_1
  have _ := fz x1_1
  have _ := ltb x1_1
  have X1_0 := hid x1_0; clear x1_0
  have X1_1 := hid x1_1; clear x1_1
  have G1 := hid (g1)
  clear hg1 g1
  go_wp2
  refine bodyPost_ret (v := .tuple #[fr (redP z t) (redQ z t), .int .i64 0]) (by simp [results, Try.results45, go_sem, *]) rfl ⟨rfl, ?_⟩
  exact ((G1.out).setCell (by simp <;> omega) _).setCell (by simp <;> omega) _
set_option maxRecDepth 20000 in
set_option maxHeartbeats 1000000 in
theorem iRepA_no (A : Option Addr) (c : Nat) (xs : List Int) (e no s g t l C : Int) (w : World) (X : Hid (RdH w A xs)) (hn : xs.length ≤ 1048576) (hh : xs.all okH = true) (hC : codeP xs e no s g t l = C) (h0 : C ≠ 0) :
    Calls Try.prog 20 #[dk A xs.length c e no, .int .i64 s, .int .i64 g, .int .i64 t, .int .i64 l] w fun x w' => x = .returned (.tuple #[fr 0 0, .int .i64 0, .int .i64 C]) ∧ Gr w w' := by
  have HK := hid fun w' (hg : Gr w w') => iCheckP A c xs e no s g t l w' (hid (X.out.keep hg)) hn hh
  rw [hC] at HK
  have c2 : ((C : Int) != 0) = true := by simpa using h0
  clear hh hC h0
  go_enter Try.func20, Try.ntmps20
  go_wp2_with fail
  refine (HK.out _ (((Gr.refl w).al _).al _)).mono ?_
  rintro e w1 ⟨rfl, hg1⟩
  obtain ⟨x1_0, x1_1, hz1, g1⟩ := alloc2 hg1
  obtain ⟨_, _, _⟩ := cells3 x1_0
  have _ := fz x1_0
  have _ := ltb x1_0
  obtain ⟨_, _⟩ := cells2 x1_1
  have _ := fz x1_1
  have _ := ltb x1_1
  have X1_0 := hid x1_0; clear x1_0
  have X1_1 := hid x1_1; clear x1_1
  have G1 := hid (g1)
  clear hg1 g1
  go_wp2
  refine bodyPost_ret (v := .tuple #[fr 0 0, .int .i64 0, .int .i64 C]) (by simp [results, Try.results20, go_sem, *]) rfl ⟨rfl, ?_⟩
  exact ((G1.out).setCell (by simp <;> omega) _).setCell (by simp <;> omega) _
set_option maxRecDepth 20000 in
set_option maxHeartbeats 1000000 in
theorem iRepA_yes (A : Option Addr) (c : Nat) (xs : List Int) (e no s g t l : Int) (w : World) (X : Hid (RdH w A xs)) (hn : xs.length ≤ 1048576) (hh : xs.all okH = true) (hc : xs.length ≤ c) (hC : codeP xs e no s g t l = 0) :
    Calls Try.prog 20 #[dk A xs.length c e no, .int .i64 s, .int .i64 g, .int .i64 t, .int .i64 l] w fun x w' => x = .returned (.tuple #[fr (redP (rpS (headF xs e no l) s g t) t) (redQ (rpS (headF xs e no l) s g t) t), .int .i64 (rpK (headF xs e no l) s g t), .int .i64 0]) ∧ Gr w w' := by
  have HK := hid fun w' (hg : Gr w w') => iCheckP A c xs e no s g t l w' (hid (X.out.keep hg)) hn hh
  obtain ⟨hR, hB⟩ := codeP_zero hC
  obtain ⟨_, _, b5, b6⟩ := rp_bd (H := headF xs e no l) hB
  have HRP := hid fun bl bk bd m w' (hx : Hid (RdH w' A xs)) hr => iRepeat A c xs e no l s g t bl bk bd m w' hx hR hc hB hr
  have HME := hid fun w' => iMeanR g t (rpS (headF xs e no l) s g t) (rpK (headF xs e no l) s g t) w' (by omega) (by omega) hB.t1 (by have := hB.t2; omega)
  rw [hC] at HK
  clear hh hC hR hB
  go_enter Try.func20, Try.ntmps20
  go_wp2_with fail
  refine (HK.out _ (((Gr.refl w).al _).al _)).mono ?_
  rintro e w1 ⟨rfl, hg1⟩
  obtain ⟨x1_0, x1_1, hz1, g1⟩ := alloc2 hg1
  obtain ⟨_, _, _⟩ := cells3 x1_0
  have _ := fz x1_0
  have _ := ltb x1_0
  obtain ⟨_, _⟩ := cells2 x1_1
  have _ := fz x1_1
  have _ := ltb x1_1
  have X1_0 := hid x1_0; clear x1_0
  have X1_1 := hid x1_1; clear x1_1
  have G1 := hid (g1)
  clear hg1 g1
  go_wp2_with fail
  refine (iReaderOf (headF xs e no l) A xs.length c e no l _).mono ?_
  rintro x w2 ⟨bl, bk, bd, m, rfl, hr, hm, hg2⟩
  have RR := hid hr; have G2 := hid (G1.out.trans hg2); have HM := hid hm; have hs1 := G1.out.size
  have XF := hid (hg2.keep X1_1.out)
  clear hr hg2 hm
  go_wp2_with fail
  refine (HRP.out bl bk bd m _ (hid (X.out.keep G2.out)) RR.out).mono ?_
  rintro x w3 ⟨rfl, _, ho⟩
  have hne : w.heap.size + 1 ≠ m := by have := ltb X1_1.out; have := HM.out; omega
  have XF3 := hid (ho.heapKeep XF.out hne)
  have G3 := hid (ho.2 w G2.out (Nat.le_trans hs1 HM.out))
  clear ho
  have _ := ltb XF3.out
  obtain ⟨_, _⟩ := cells2 XF3.out
  obtain ⟨_, _⟩ := cells2 XF3.out
  have _ := fz XF3.out
  have _ := ltb XF3.out
  go_wp2_with fail
  refine (HME.out _).mono ?_
  rintro e w4 ⟨rfl, hg4⟩
  obtain ⟨x4_0, hz4, g4⟩ := alloc1 hg4
  have x4_1 := g4.keep XF3.out
  obtain ⟨_, _⟩ := cells2 x4_1
  have _ := fz x4_1
  have _ := ltb x4_1
  obtain ⟨_, _, _, _⟩ := cells4 x4_0
  have _ := fz x4_0
  have _ := ltb x4_0
  have X4_1 := hid x4_1; clear x4_1
  have X4_0 := hid x4_0; clear x4_0
  have G4 := hid (G3.out.trans g4)
  clear hg4 g4
  go_wp2_with fail
  have M1 := hid (ne_of X4_0.out X4_1.out (by first | omega))
  refine wp_regO 6 4 10 39 (by kernel_rfl) (by kernel_rfl) rfl (by decide) rfl rfl rfl rfl (by kernel_rfl) (((Gr.refl _).al _).keep X4_1.out) (by kernel_rfl) ?_
  apply Exists.intro; apply Exists.intro
  refine ⟨fun wb hb => ?_, ?_⟩
  · obtain ⟨_, _⟩ := atO2 hb (alloc1 (Gr.refl _)).1 (by omega)
    obtain ⟨_, _, _, _⟩ := atO4 hb (((Gr.refl _).al _).keep X4_0.out) M1.out
    simp only [headOps, List.contains, List.elem, Nat.reduceAdd, Nat.reduceBEq, reduceIte, Bool.false_eq_true, dumOp]
    repeat (first | go_big_quiet_step (first | (fail)) | quiet_step (fail))
    exact wpQuiet_nil rfl
  refine ⟨rfl, ⟨rfl, by simp [Value.oneCell']⟩, fun w5 hg5 => ?_⟩
  have x5_0 := hg5.keep (row_new (((Gr.refl _).al _).keep X4_1.out))
  have x5_1 := hg5.keep (row_old (((Gr.refl _).al _).keep X4_0.out) M1.out)
  have x5_2 := hg5.keep (row_old (alloc1 (Gr.refl _)).1 (by omega))
  obtain ⟨_, _⟩ := cells2 x5_0
  have _ := fz x5_0
  have _ := ltb x5_0
  obtain ⟨_, _, _, _⟩ := cells4 x5_1
  have _ := fz x5_1
  have _ := ltb x5_1
  obtain ⟨_, _⟩ := cells2 x5_2
  have _ := fz x5_2
  have _ := ltb x5_2
  have X5_0 := hid x5_0; clear x5_0
  have X5_1 := hid x5_1; clear x5_1
  have X5_2 := hid x5_2; clear x5_2
  have G5 := hid ((((G4.out).al _).setRow (by first | omega | (simp; done) | (simp; omega)) _).trans hg5); clear hg5
  go_wp2
  refine bodyPost_ret (v := .tuple #[fr (redP (rpS (headF xs e no l) s g t) t) (redQ (rpS (headF xs e no l) s g t) t), .int .i64 (rpK (headF xs e no l) s g t), .int .i64 0]) (by simp [results, Try.results20, go_sem, *]) rfl ⟨rfl, ?_⟩
  exact G5.out
set_option maxRecDepth 20000 in
set_option maxHeartbeats 1000000 in
theorem sRepeat (b : Nat) (T : TypeId) (A : Option Addr) (c : Nat) (xs : List Int) (e no s g t l : Int) (w : World) (XB : Hid (w.heap[b]? = some (.cells #[.slice A xs.length c, .int .i64 e, .int .i64 no] T))) (X : Hid (RdH w A xs)) (h : Rding xs e no l) (hb : RpB s g t) :
    Calls Try.prog 42 #[.pointer (some ⟨b, 0, none⟩), .int .i64 s, .int .i64 g, .int .i64 t, .int .i64 l] w fun x w' => x = .returned (.tuple #[fr (redP (rpS (headF xs e no l) s g t) t) (redQ (rpS (headF xs e no l) s g t) t), .int .i64 (rpK (headF xs e no l) s g t), .int .i64 0]) ∧ Gr w w' := by
  obtain ⟨m1, m2⟩ := tg_bd hb
  obtain ⟨⟨b1, b2⟩, ⟨b3, b4⟩, b5, b6⟩ := rp_bd (H := headF xs e no l) hb
  obtain ⟨o1, o2⟩ := wrap_bd (s + t * g)
  obtain ⟨h1, h2⟩ := headF_bd (xs := xs) (e := e) (no := no) (l := l) (a := s)
  obtain ⟨h3, h4⟩ := headF_bd (xs := xs) (e := e) (no := no) (l := l) (a := wrapI (s + t * g))
  obtain ⟨_, _, _, _, _, _⟩ := hb
  have HRD := fun (a : Int) w' (a1 : 0 ≤ a) (a2 : a < 1296000) (hg : Gr w w') => sHeadF b T A c xs e no a l w' (hid (hg.keep XB.out)) (hid (X.out.keep hg)) h a1 a2
  have eT : rpT (headF xs e no l) s g t = turnI (headF xs e no l s) (headF xs e no l (wrapI (s + t * g))) := rfl
  have eK : rpK (headF xs e no l) s g t = downI (2 * (t * g - rpT (headF xs e no l) s g t) + 1296000) (2 * 1296000) := rfl
  have eS : rpS (headF xs e no l) s g t = rpT (headF xs e no l) s g t + rpK (headF xs e no l) s g t * 1296000 := rfl
  generalize headF xs e no l = H at *
  generalize hT : rpT H s g t = T' at *
  generalize hK : rpK H s g t = K at *
  generalize hS : rpS H s g t = Z at *
  have HRD := hid HRD
  have hdn : ∀ w', Calls Try.prog 49 #[.int .i64 (2 * (t * g - T') + 1296000), .int .i64 2592000] w' fun e w'' => e = .returned (.int .i64 K) ∧ w' = w'' := fun w' => by
    rw [eK]
    exact sdown _ _ w' (by omega) (by omega) (by omega) (by omega)
  have htr : ∀ w', Calls Try.prog 29 #[.int .i64 (H s), .int .i64 (H (wrapI (s + t * g)))] w' fun e w'' => e = .returned (.int .i64 T') ∧ w' = w'' := fun w' => by
    rw [eT]
    exact sturn _ _ w' (by omega) (by omega) (by omega) (by omega)
  obtain ⟨c0, c1, c2⟩ := rC_zero (p := Z) (q := t) (by omega) (by omega) (by omega) (by omega)
  have hm := fun w => sred_any Z t w (by omega) (by omega) (by omega) (by omega) (by omega)
  rw [c0, c1, c2] at hm
  have HM := hid hm
  have HDN := hid hdn; have HTR := hid htr
  have ES := hid eS
  clear hdn htr h hT hK hS eT eK eS hm c0 c1 c2
  go_enter Try.func42, Try.ntmps42
  go_wp2_with fail
  refine (HRD.out s _ (by omega) (by omega) ((Gr.refl w).al _)).mono ?_
  rintro e w1 ⟨rfl, hg1⟩
  obtain ⟨x1_0, hz1, g1⟩ := alloc1 hg1
  obtain ⟨_, _⟩ := cells2 x1_0
  have _ := fz x1_0
  have _ := ltb x1_0
  have X1_0 := hid x1_0; clear x1_0
  have G1 := hid (g1)
  clear hg1 g1
  go_wp2_with (go_at_call 37; refine (swrap _ _ (by omega) (by omega)).mono ?_; rintro x w4 ⟨rfl, rfl⟩)
  go_wp2_with fail
  refine (HRD.out (wrapI (s + t * g)) _ (by omega) (by omega) G1.out).mono ?_
  rintro e w2 ⟨rfl, hg2⟩
  have x2_1 := hg2.keep X1_0.out
  obtain ⟨_, _⟩ := cells2 x2_1
  have _ := fz x2_1
  have _ := ltb x2_1
  have X2_1 := hid x2_1; clear x2_1
  have G2 := hid (G1.out.trans hg2)
  clear hg2
  go_wp2_with (first | (go_at_call 29; refine (HTR.out _).mono ?_; rintro x w4 ⟨rfl, rfl⟩) | (go_at_call 49; refine (HDN.out _).mono ?_; rintro x w4 ⟨rfl, rfl⟩))
  rw [← ES.out]
  go_wp2_with fail
  refine (HM.out _).mono ?_
  rintro e w3 ⟨rfl, hg3⟩
  have x3_1 := hg3.keep X2_1.out
  obtain ⟨_, _⟩ := cells2 x3_1
  have _ := fz x3_1
  have _ := ltb x3_1
  have X3_1 := hid x3_1; clear x3_1
  have G3 := hid (G2.out.trans hg3)
  clear hg3
  go_wp2
  refine bodyPost_ret (v := .tuple #[fr (redP Z t) (redQ Z t), .int .i64 K, .int .i64 0]) (by simp [results, Try.results42, go_sem, *]) rfl ⟨rfl, ?_⟩
  exact (((G3.out).setCell (by simp <;> omega) _).setCell (by simp <;> omega) _).al _
end Go.Proofs.Ytljmbdjojogbjaa
