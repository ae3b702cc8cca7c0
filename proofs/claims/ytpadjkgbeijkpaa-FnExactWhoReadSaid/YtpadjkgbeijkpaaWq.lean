/- WALKS: NearestReader of both sides. -/
import Derived.Test.YtpadjkgbeijkpaaWz
namespace Go.Proofs.Ytpadjkgbeijkpaa
open Go.RowKit Go.Sort

theorem in_isW (n lo hi : Int) (r : Bool) (w : World) (h : inB n lo hi = r) : Calls Try.prog 53 #[.int .i64 n, .int .i64 lo, .int .i64 hi] w fun e w' => e = .returned (.bool r) ∧ Gr w w' :=
  (in_any n lo hi w).mono fun e w' ⟨he, hw⟩ => ⟨by rw [he, h], hw ▸ Gr.refl _⟩
set_option maxRecDepth 20000 in
set_option maxHeartbeats 1000000 in
theorem iHits_1 (A F B : Option Addr) (c cf cb k m : Nat) (xs : List Rqv) (w : World) (X : Hid (RdRq w A xs)) (hn : xs.length ≤ 1048576) (hw : xs.all wfR = true) (hx : xs.all okRd = false) :
    Calls Try.prog 62 #[.slice A xs.length c, .slice F k cf, .slice B m cb] w fun e w' => e = .returned (.tuple #[.slice none 0 0, .int .i64 1]) ∧ Gr w w' := by
  have HV := hid fun (w : World) (X : Hid (RdRq w A xs)) => iVRs A c xs false w X hn hw hx
  clear hw hx
  go_enter Try.func62, Try.ntmps62
  go_wp2_with fail
  refine (HV.out _ X).mono ?_
  rintro e w1 ⟨rfl, hg1⟩
  have G1 := hid (hg1)
  clear hg1
  go_wp2
  go_ret2
  exact ⟨rfl, G1.out⟩
set_option maxRecDepth 20000 in
set_option maxHeartbeats 1000000 in
theorem iHits_2 (A F B : Option Addr) (c cf cb k m : Nat) (xs : List Rqv) (C : Int) (w : World) (X : Hid (RdRq w A xs)) (hn : xs.length ≤ 1048576) (hw : xs.all wfR = true) (hx : xs.all okRd = true) (hC : C ≠ 0)
    (ht : ∀ w', Gr w w' → Calls Try.prog 110 #[.slice F k cf, .slice B m cb] w' fun e w'' => e = .returned (.tuple #[tv none 0 0 none 0 0, .int .i64 C]) ∧ Gr w' w'') :
    Calls Try.prog 62 #[.slice A xs.length c, .slice F k cf, .slice B m cb] w fun e w' => e = .returned (.tuple #[.slice none 0 0, .int .i64 C]) ∧ Gr w w' := by
  have HV := hid fun (w : World) (X : Hid (RdRq w A xs)) => iVRs A c xs true w X hn hw hx
  have HT := hid ht
  have hd : ((C : Int) == 0) = false := by simpa using hC
  have hd2 : ((C : Int) != 0) = true := by simpa using hC
  clear hw hx ht hC
  go_enter Try.func62, Try.ntmps62
  go_wp2_with fail
  refine (HV.out _ X).mono ?_
  rintro e w1 ⟨rfl, hg1⟩
  have G1 := hid (hg1)
  clear hg1
  go_wp2_with fail
  refine (HT.out _ G1.out).mono ?_
  rintro e w2 ⟨rfl, hg2⟩
  have G2 := hid (G1.out.trans hg2)
  clear hg2
  go_wp2
  go_ret2
  exact ⟨rfl, G2.out.al _⟩
set_option maxRecDepth 20000 in
set_option maxHeartbeats 1000000 in
theorem iHits_3 (A F B : Option Addr) (c cf cb k m : Nat) (xs : List Rqv) (w : World) (X : Hid (RdRq w A xs)) (hn : xs.length ≤ 1048576) (hw : xs.all wfR = true) (hx : xs.all okRd = true) (hl : ¬ (1 ≤ xs.length ∧ xs.length ≤ 12))
    (ht : ∀ w', Gr w w' → Calls Try.prog 110 #[.slice F k cf, .slice B m cb] w' fun e w'' => e = .returned (.tuple #[tv F k cf B m cb, .int .i64 0]) ∧ Gr w' w'') :
    Calls Try.prog 62 #[.slice A xs.length c, .slice F k cf, .slice B m cb] w fun e w' => e = .returned (.tuple #[.slice none 0 0, .int .i64 2]) ∧ Gr w w' := by
  have HV := hid fun (w : World) (X : Hid (RdRq w A xs)) => iVRs A c xs true w X hn hw hx
  have HT := hid ht
  obtain ⟨n, hnn⟩ : ∃ n, xs.length = n := ⟨_, rfl⟩
  rw [hnn] at HV hl hn
  rw [hnn]
  clear hw hx ht hnn
  by_cases h1 : n < 1
  · have d1 : (n : Int) < 1 := by omega
    go_enter Try.func62, Try.ntmps62
    go_wp2_with fail
    refine (HV.out _ X).mono ?_
    rintro e w1 ⟨rfl, hg1⟩
    have G1 := hid (hg1)
    clear hg1
    go_wp2_with fail
    refine (HT.out _ G1.out).mono ?_
    rintro e w2 ⟨rfl, hg2⟩
    have G2 := hid (G1.out.trans hg2)
    clear hg2
    go_wp2
    go_ret2
    exact ⟨rfl, G2.out.al _⟩
  · have d1 : ¬ (n : Int) < 1 := by omega
    have d2 : (12 : Int) < (n : Int) := by omega
    go_enter Try.func62, Try.ntmps62
    go_wp2_with fail
    refine (HV.out _ X).mono ?_
    rintro e w1 ⟨rfl, hg1⟩
    have G1 := hid (hg1)
    clear hg1
    go_wp2_with fail
    refine (HT.out _ G1.out).mono ?_
    rintro e w2 ⟨rfl, hg2⟩
    have G2 := hid (G1.out.trans hg2)
    clear hg2
    go_wp2
    go_ret2
    exact ⟨rfl, G2.out.al _⟩
set_option maxRecDepth 20000 in
set_option maxHeartbeats 1000000 in
theorem iNear_no (va vf vb : Value) (C : Int) (w : World) (hC : C ≠ 0) (ht : ∀ w', Gr w w' → Calls Try.prog 62 #[va, vf, vb] w' fun e w'' => e = .returned (.tuple #[.slice none 0 0, .int .i64 C]) ∧ Gr w' w'') :
    Calls Try.prog 30 #[va, vf, vb] w fun e w' => e = .returned (.tuple #[.int .i64 0, .int .i64 0, .int .i64 C]) ∧ Gr w w' := by
  have HT := hid ht
  have hd : ((C : Int) == 0) = false := by simpa using hC
  have hd2 : ((C : Int) != 0) = true := by simpa using hC
  clear ht hC
  go_enter Try.func30, Try.ntmps30
  go_wp2_with fail
  refine (HT.out _ (Gr.refl _)).mono ?_
  rintro e w1 ⟨rfl, hg1⟩
  have G1 := hid (hg1)
  clear hg1
  go_wp2
  refine bodyPost_ret (v := .tuple #[.int .i64 0, .int .i64 0, .int .i64 C]) (by simp [results, Try.results30, go_sem, *]) rfl ⟨rfl, ?_⟩
  exact G1.out
set_option maxRecDepth 20000 in
set_option maxHeartbeats 1000000 in
theorem iNear_ok (va vf vb : Value) (n : Nat) (hs : List Int) (j : Nat) (d : Int) (w : World) (hn : hs.length = n) (h1 : 1 ≤ n) (h2 : n ≤ 12) (hj : FM hs j) (hd : hs[j]? = some d) (ht : ∀ w', Gr w w' → Calls Try.prog 62 #[va, vf, vb] w' fun e w'' => ∃ A' c', e = .returned (.tuple #[.slice A' n c', .int .i64 0]) ∧ RdI w'' A' hs ∧ Gr w' w'') :
    Calls Try.prog 30 #[va, vf, vb] w fun e w' => e = .returned (.tuple #[.int .i64 (j : Int), .int .i64 d, .int .i64 0]) ∧ Gr w w' := by
  have HT := hid ht; have HJ := hid hj; have HN := hid hn; have HD := hid hd
  have hjl : j < n := by have := (List.getElem?_eq_some_iff.1 hd).1; omega
  clear ht hj hn hd
  go_enter Try.func30, Try.ntmps30
  go_wp2_with fail
  refine (HT.out _ (Gr.refl _)).mono ?_
  rintro e w1 ⟨A', c', rfl, rd, hg⟩
  have RD := hid rd; have G1 := hid hg; clear rd hg
  go_wp2_with fail
  refine (iFirstJ A' c' n hs _ RD HN.out h1 (by omega)).mono ?_
  rintro e w2 ⟨⟨j', rfl, hj'⟩, hg⟩
  obtain rfl := FM.uniq HJ.out hj'
  have G2 := hid (G1.out.trans hg); have RD2 := hid (RD.out.keep hg)
  clear hj' hg
  obtain ⟨ad, rfl, c1⟩ := RD2.out j d HD.out
  have _ := c1
  go_wp2_with fail
  go_region
  all_goals
    go_wp2
    refine bodyPost_ret (v := .tuple #[.int .i64 (j : Int), .int .i64 d, .int .i64 0]) (by simp [results, Try.results30, go_sem, *]) rfl ⟨rfl, ?_⟩
    first | exact G2.out | exact G2.out.trans (Gr.drew _)
/-! the reference -/
set_option maxRecDepth 20000 in
set_option maxHeartbeats 1000000 in
theorem sAsked_1 (g : Nat) (F B : Option Addr) (c cf cb k m : Nat) (xs : List Rqv) (w : World) (X : Hid (RdRq w (some ⟨g, 0, none⟩) xs)) (hn : xs.length ≤ 1048576) (hw : xs.all wfR = true) (hx : xs.all okRd = false) :
    Calls Try.prog 59 #[.slice (some ⟨g, 0, none⟩) xs.length c, .slice F k cf, .slice B m cb] w fun e w' => e = .returned (.int .i64 1) ∧ Gr w w' := by
  have HV := hid fun (w : World) (X : Hid (RdRq w (some ⟨g, 0, none⟩) xs)) => sVRs g c xs false w X hn hw hx
  clear hw hx
  go_enter Try.func59, Try.ntmps59
  go_wp2_with fail
  refine (HV.out _ X).mono ?_
  rintro e w1 ⟨rfl, hg1⟩
  have G1 := hid (hg1)
  clear hg1
  go_wp2
  go_ret
  exact ⟨rfl, G1.out⟩
set_option maxRecDepth 20000 in
set_option maxHeartbeats 1000000 in
theorem sAsked_2 (g : Nat) (F B : Option Addr) (c cf cb k m : Nat) (xs : List Rqv) (C : Int) (w : World) (X : Hid (RdRq w (some ⟨g, 0, none⟩) xs)) (hn : xs.length ≤ 1048576) (hw : xs.all wfR = true) (hx : xs.all okRd = true) (hC : C ≠ 0)
    (ht : ∀ w', Gr w w' → Calls Try.prog 108 #[.slice F k cf, .slice B m cb] w' fun e w'' => e = .returned (.int .i64 C) ∧ Gr w' w'') :
    Calls Try.prog 59 #[.slice (some ⟨g, 0, none⟩) xs.length c, .slice F k cf, .slice B m cb] w fun e w' => e = .returned (.int .i64 C) ∧ Gr w w' := by
  have HV := hid fun (w : World) (X : Hid (RdRq w (some ⟨g, 0, none⟩) xs)) => sVRs g c xs true w X hn hw hx
  have HT := hid ht
  have hd : ((C : Int) == 0) = false := by simpa using hC
  clear hw hx ht hC
  go_enter Try.func59, Try.ntmps59
  go_wp2_with fail
  refine (HV.out _ X).mono ?_
  rintro e w1 ⟨rfl, hg1⟩
  have G1 := hid (hg1)
  clear hg1
  go_wp2_with fail
  refine (HT.out _ G1.out).mono ?_
  rintro e w2 ⟨rfl, hg2⟩
  have G2 := hid (G1.out.trans hg2)
  clear hg2
  go_wp2
  go_ret
  exact ⟨rfl, G2.out⟩
set_option maxRecDepth 20000 in
set_option maxHeartbeats 1000000 in
theorem sAsked_3 (g : Nat) (F B : Option Addr) (c cf cb k m : Nat) (xs : List Rqv) (C : Int) (w : World) (X : Hid (RdRq w (some ⟨g, 0, none⟩) xs)) (hn : xs.length ≤ 1048576) (hw : xs.all wfR = true) (hx : xs.all okRd = true) (hC : C = if 1 ≤ xs.length ∧ xs.length ≤ 12 then 0 else 2)
    (ht : ∀ w', Gr w w' → Calls Try.prog 108 #[.slice F k cf, .slice B m cb] w' fun e w'' => e = .returned (.int .i64 0) ∧ Gr w' w'') :
    Calls Try.prog 59 #[.slice (some ⟨g, 0, none⟩) xs.length c, .slice F k cf, .slice B m cb] w fun e w' => e = .returned (.int .i64 C) ∧ Gr w w' := by
  have HV := hid fun (w : World) (X : Hid (RdRq w (some ⟨g, 0, none⟩) xs)) => sVRs g c xs true w X hn hw hx
  have HT := hid ht
  obtain ⟨r, hr⟩ : ∃ r, inB (xs.length : Int) 1 12 = r := ⟨_, rfl⟩
  have HI := hid fun (w : World) => in_isW (xs.length : Int) 1 12 r w hr
  have hrC : C = if r then 0 else 2 := by
    rw [hC, ← hr]
    unfold inB
    by_cases h : 1 ≤ xs.length ∧ xs.length ≤ 12
    · rw [if_pos h, if_pos (by simp; omega)]
    · rw [if_neg h, if_neg (by simp; omega)]
  clear hw hx ht hC hr
  cases r with
  | true =>
    obtain rfl : C = 0 := hrC
    go_enter Try.func59, Try.ntmps59
    go_wp2_with fail
    refine (HV.out _ X).mono ?_
    rintro e w1 ⟨rfl, hg1⟩
    have G1 := hid (hg1)
    clear hg1
    go_wp2_with fail
    refine (HT.out _ G1.out).mono ?_
    rintro e w2 ⟨rfl, hg2⟩
    have G2 := hid (G1.out.trans hg2)
    clear hg2
    go_wp2_with fail
    refine (HI.out _).mono ?_
    rintro e w3 ⟨rfl, hg3⟩
    have G3 := hid (G2.out.trans hg3)
    clear hg3
    go_wp2
    go_ret
    exact ⟨rfl, G3.out⟩
  | false =>
    obtain rfl : C = 2 := hrC
    go_enter Try.func59, Try.ntmps59
    go_wp2_with fail
    refine (HV.out _ X).mono ?_
    rintro e w1 ⟨rfl, hg1⟩
    have G1 := hid (hg1)
    clear hg1
    go_wp2_with fail
    refine (HT.out _ G1.out).mono ?_
    rintro e w2 ⟨rfl, hg2⟩
    have G2 := hid (G1.out.trans hg2)
    clear hg2
    go_wp2_with fail
    refine (HI.out _).mono ?_
    rintro e w3 ⟨rfl, hg3⟩
    have G3 := hid (G2.out.trans hg3)
    clear hg3
    go_wp2
    go_ret
    exact ⟨rfl, G3.out⟩
set_option maxRecDepth 20000 in
set_option maxHeartbeats 1000000 in
theorem sNear_no (va vf vb : Value) (C : Int) (w : World) (hC : C ≠ 0) (ht : ∀ w', Gr w w' → Calls Try.prog 59 #[va, vf, vb] w' fun e w'' => e = .returned (.int .i64 C) ∧ Gr w' w'') :
    Calls Try.prog 29 #[va, vf, vb] w fun e w' => e = .returned (.tuple #[.int .i64 0, .int .i64 0, .int .i64 C]) ∧ Gr w w' := by
  have HT := hid ht
  have hd : ((C : Int) == 0) = false := by simpa using hC
  have hd2 : ((C : Int) != 0) = true := by simpa using hC
  clear ht hC
  go_enter Try.func29, Try.ntmps29
  go_wp2_with fail
  refine (HT.out _ (Gr.refl _)).mono ?_
  rintro e w1 ⟨rfl, hg1⟩
  have G1 := hid (hg1)
  clear hg1
  go_wp2
  refine bodyPost_ret (v := .tuple #[.int .i64 0, .int .i64 0, .int .i64 C]) (by simp [results, Try.results29, go_sem, *]) rfl ⟨rfl, ?_⟩
  exact G1.out
/-- The nearest of the first k. -/
def NrK (hs : List Int) (k at_ : Nat) (most : Int) : Prop := (k = 0 ∧ at_ = 0 ∧ most = -1) ∨ (FMk hs k at_ ∧ hs[at_]? = some most)
theorem NrK.up {hs : List Int} {k a : Nat} {m x : Int} (h : NrK hs k a m) (hx : hs[k]? = some x) (hl : m < x) : NrK hs (k + 1) k x := by
  rcases h with ⟨rfl, rfl, rfl⟩ | ⟨h1, h2⟩
  · exact .inr ⟨FMk.one hx, hx⟩
  · exact .inr ⟨h1.up h2 hx hl, hx⟩
theorem NrK.stay {hs : List Int} {k a : Nat} {m x : Int} (h : NrK hs k a m) (hx : hs[k]? = some x) (h0 : 0 ≤ x) (hl : ¬ m < x) : NrK hs (k + 1) a m := by
  rcases h with ⟨rfl, rfl, rfl⟩ | ⟨h1, h2⟩
  · omega
  · exact .inr ⟨h1.stay h2 hx hl, h2⟩
set_option maxRecDepth 20000 in
set_option maxHeartbeats 2000000 in
theorem sNear_ok (g : Nat) (F B : Option Addr) (c cf cb n : Nat) (xs : List Rqv) (fs : List (Int × Int)) (ns : List Int) (j : Nat) (d : Int) (w : World) (X : Hid (RdRq w (some ⟨g, 0, none⟩) xs)) (XF : Hid (RdF w F fs)) (Y : Hid (RdI w B ns)) (h1 : 1 ≤ xs.length) (h12 : xs.length ≤ 12) (hx : xs.all okRd = true) (hf : allF fs = true) (hfl : fs.length = n) (hnl : ns.length = n) (hn : n ≤ 1048576)
    (hj : FM (hts xs fs ns n) j) (hd : (hts xs fs ns n)[j]? = some d)
    (ht : ∀ w', Gr w w' → Calls Try.prog 59 #[.slice (some ⟨g, 0, none⟩) xs.length c, .slice F n cf, .slice B n cb] w' fun e w'' => e = .returned (.int .i64 0) ∧ Gr w' w'') :
    Calls Try.prog 29 #[.slice (some ⟨g, 0, none⟩) xs.length c, .slice F n cf, .slice B n cb] w fun e w' => e = .returned (.tuple #[.int .i64 (j : Int), .int .i64 d, .int .i64 0]) ∧ Gr w w' := by
  have HT := hid ht; have HX := hid hx; have HF := hid hf; have HFL := hid hfl; have HNL := hid hnl; have HJ := hid hj; have HD := hid hd
  clear ht hx hf hfl hnl hj hd
  go_enter Try.func29, Try.ntmps29
  go_wp2_with fail
  refine (HT.out _ (Gr.refl _)).mono ?_
  rintro e w1 ⟨rfl, hg1⟩
  have G1 := hid (hg1)
  clear hg1
  go_wp2_with fail
  go_loopw [10, 11, 12] (fun s t u wr => ∃ (k a : Nat) (m : Int), u = .int .i64 (k : Int) ∧ s = .int .i64 (a : Int) ∧ t = .int .i64 m ∧ k ≤ xs.length ∧ Gr w wr ∧ NrK (hts xs fs ns n) k a m) (fun _ _ u _ => xs.length - (intOf u).toNat)
  case atStart => exact ⟨0, 0, -1, rfl, rfl, rfl, by omega, G1.out, .inl ⟨rfl, rfl, rfl⟩⟩
  case round =>
    obtain ⟨k, a, m, rfl, rfl, rfl, hk, hg, hnr⟩ := hrel
    have GW := hid hg; have NR := hid hnr; clear hg hnr
    by_cases hlt : k < xs.length
    · obtain ⟨x, hp⟩ : ∃ x, xs[k]? = some x := ⟨xs[k], List.getElem?_eq_getElem _⟩
      obtain ⟨ad, he, c1⟩ := (X.out.keep GW.out) k x hp
      cases he
      rw [add_at] at c1
      have C1 := hid c1; clear c1
      have hg0 := hid (show gsB x.b x.u = true by have := allRq_get hp HX.out; unfold okRd rrB at this; simp only [Bool.and_eq_true] at this; exact this.2)
      have HP := hid (hts_get (fs := fs) (ns := ns) (n := n) hp)
      have hbd := htI_bd fs ns n (x.b, x.u, x.o)
      have HH := hid fun (w : World) (XF : Hid (RdF w F fs)) (Y : Hid (RdI w B ns)) => (sHits x.b x.u x.o F B cf cb n fs ns w XF Y hn hg0.out HF.out HFL.out HNL.out).mono (R' := fun e w' => e = .returned (.int .i64 (htI fs ns n (x.b, x.u, x.o))) ∧ Gr w w') fun _ _ hh => hh
      obtain ⟨h, hh⟩ : ∃ h, htI fs ns n (x.b, x.u, x.o) = h := ⟨_, rfl⟩
      rw [hh] at HP HH hbd
      clear hp hh
      go_wp2_with fail
      refine (sHabitAt x.nm x.b x.u x.o wr g (k * 4) C1).mono ?_
      rintro e w5 ⟨rfl, hg5⟩
      have G5 := hid (GW.out.trans hg5); clear hg5
      go_wp2_with fail
      refine (HH.out _ (hid (XF.out.keep G5.out)) (hid (Y.out.keep G5.out))).mono ?_
      rintro e w6 ⟨rfl, hg6⟩
      have G6 := hid (G5.out.trans hg6); clear hg6
      by_cases hl : m < h
      · have N2 := hid (NR.out.up HP.out hl)
        go_wp2_with fail
        exact ⟨⟨k + 1, k, h, by simp, by simp, by simp, by omega, G6.out, N2.out⟩, by simp [intOf]; omega⟩
      · have N2 := hid (NR.out.stay HP.out hbd.1 hl)
        go_wp2_with fail
        exact ⟨⟨k + 1, a, m, by simp, by simp, by simp, by omega, G6.out, N2.out⟩, by simp [intOf]; omega⟩
    · have hke : k = xs.length := by omega
      have hR : a = j ∧ m = d := by
        rcases NR.out with ⟨h0, _, _⟩ | ⟨h2, h3⟩
        · omega
        · rw [hke, ← hts_len xs fs ns n] at h2
          obtain rfl := FM.uniq h2.fm HJ.out
          rw [HD.out] at h3
          cases h3
          exact ⟨rfl, rfl⟩
      obtain ⟨rfl, rfl⟩ := hR
      go_wp2_with fail
      refine bodyPost_ret (v := .tuple #[.int .i64 (a : Int), .int .i64 m, .int .i64 0]) (by simp [results, Try.results29, go_sem, *]) rfl ⟨rfl, ?_⟩
      exact GW.out
/-- What NearestReader gives. -/
theorem bothNearestReader (xs : List Rqv) (fs : List (Int × Int)) (ns : List Int) (hn : xs.length ≤ 1048576) (hf : fs.length ≤ 1048576) (hm : ns.length ≤ 1048576) (hw : xs.all wfR = true) : ∃ r0 r1 C : Int,
    (∀ (g h : Nat) (B : Option Addr) (c ch d : Nat) (w : World), Hid (RdRq w (some ⟨g, 0, none⟩) xs) → Hid (RdF w (some ⟨h, 0, none⟩) fs) → Hid (RdI w B ns) → Calls Try.prog 29 #[.slice (some ⟨g, 0, none⟩) xs.length c, .slice (some ⟨h, 0, none⟩) fs.length ch, .slice B ns.length d] w fun e w' => e = .returned (.tuple #[.int .i64 r0, .int .i64 r1, .int .i64 C]) ∧ Gr w w') ∧
    (∀ (g h : Nat) (B : Option Addr) (c ch d : Nat) (w : World), Hid (RdRq w (some ⟨g, 0, none⟩) xs) → Hid (RdF w (some ⟨h, 0, none⟩) fs) → Hid (RdI w B ns) → Calls Try.prog 30 #[.slice (some ⟨g, 0, none⟩) xs.length c, .slice (some ⟨h, 0, none⟩) fs.length ch, .slice B ns.length d] w fun e w' => e = .returned (.tuple #[.int .i64 r0, .int .i64 r1, .int .i64 C]) ∧ Gr w w') := by
  cases hx : xs.all okRd with
  | false =>
    exact ⟨0, 0, 1, fun g h B c ch d w X F Y => sNear_no _ _ _ 1 w (by decide) fun w' hg => sAsked_1 g _ B c ch d _ _ xs w' (hid (X.out.keep hg)) hn hw hx,
      fun g h B c ch d w X F Y => iNear_no _ _ _ 1 w (by decide) fun w' hg => iHits_1 _ _ B c ch d _ _ xs w' (hid (X.out.keep hg)) hn hw hx⟩
  | true =>
    cases ha : allF fs with
    | false =>
      exact ⟨0, 0, 1, fun g h B c ch d w X F Y => sNear_no _ _ _ 1 w (by decide) fun w' hg => sAsked_2 g _ B c ch d _ _ xs 1 w' (hid (X.out.keep hg)) hn hw hx (by decide) fun w'' hg' => sPairs_1 _ B ch d _ fs w'' (hid (F.out.keep (hg.trans hg'))) hf ha,
        fun g h B c ch d w X F Y => iNear_no _ _ _ 1 w (by decide) fun w' hg => iHits_2 _ _ B c ch d _ _ xs 1 w' (hid (X.out.keep hg)) hn hw hx (by decide) fun w'' hg' => iTrial_1 _ B ch d _ fs w'' (hid (F.out.keep (hg.trans hg'))) hf ha⟩
    | true =>
      have sErr : rdB ns = false ∨ fs.length ≠ ns.length → ∀ (g h : Nat) (B : Option Addr) (c ch d : Nat) (w : World), Hid (RdRq w (some ⟨g, 0, none⟩) xs) → Hid (RdF w (some ⟨h, 0, none⟩) fs) → Hid (RdI w B ns) → Calls Try.prog 29 #[.slice (some ⟨g, 0, none⟩) xs.length c, .slice (some ⟨h, 0, none⟩) fs.length ch, .slice B ns.length d] w fun e w' => e = .returned (.tuple #[.int .i64 0, .int .i64 0, .int .i64 2]) ∧ Gr w w' := fun hor g h B c ch d w X F Y =>
        sNear_no _ _ _ 2 w (by decide) fun w' hg => sAsked_2 g _ B c ch d _ _ xs 2 w' (hid (X.out.keep hg)) hn hw hx (by decide) fun w'' hg' => by
          cases hr : rdB ns with
          | false => exact sPairs_2 _ B ch d _ fs ns w'' (hid (F.out.keep (hg.trans hg'))) (hid (Y.out.keep (hg.trans hg'))) hf rfl hm ha hr
          | true => exact sPairs_3 _ B ch d _ fs ns w'' (hid (F.out.keep (hg.trans hg'))) (hid (Y.out.keep (hg.trans hg'))) hf rfl ha hr (hor.resolve_left (by simp [hr]))
      by_cases hl : fs.length = ns.length
      · cases hr : rdB ns with
        | false =>
          exact ⟨0, 0, 2, sErr (.inl hr),
            fun g h B c ch d w X F Y => iNear_no _ _ _ 2 w (by decide) fun w' hg => iHits_2 _ _ B c ch d _ _ xs 2 w' (hid (X.out.keep hg)) hn hw hx (by decide) fun w'' hg' => by
              have := iTrial_3 _ B ch d ns.length fs ns w'' (hid (F.out.keep (hg.trans hg'))) (hid (Y.out.keep (hg.trans hg'))) hm ha hl rfl hr
              rwa [← hl] at this ⊢⟩
        | true =>
          have hT : ∀ (h : Nat) (B : Option Addr) (ch d : Nat) (w : World), Hid (RdF w (some ⟨h, 0, none⟩) fs) → Hid (RdI w B ns) → Calls Try.prog 110 #[.slice (some ⟨h, 0, none⟩) fs.length ch, .slice B ns.length d] w fun e w' => e = .returned (.tuple #[tv (some ⟨h, 0, none⟩) fs.length ch B ns.length d, .int .i64 0]) ∧ Gr w w' := fun h B ch d w F Y => by
            have := iTrial_ok (some ⟨h, 0, none⟩) B ch d ns.length fs ns w F Y hm ha hl rfl hr
            rwa [← hl] at this ⊢
          have hP : ∀ (h : Nat) (B : Option Addr) (ch d : Nat) (w : World), Hid (RdF w (some ⟨h, 0, none⟩) fs) → Hid (RdI w B ns) → Calls Try.prog 108 #[.slice (some ⟨h, 0, none⟩) fs.length ch, .slice B ns.length d] w fun e w' => e = .returned (.int .i64 0) ∧ Gr w w' := fun h B ch d w F Y => by
            have := sPairs_ok (some ⟨h, 0, none⟩) B ch d ns.length fs ns w F Y hm ha hl rfl hr
            rwa [← hl] at this ⊢
          by_cases h12 : 1 ≤ xs.length ∧ xs.length ≤ 12
          · obtain ⟨j, hj⟩ := FMk.ex (ds := hts xs fs ns ns.length) xs.length h12.1 (by rw [hts_len]; exact Nat.le_refl _)
            rw [← hts_len xs fs ns ns.length] at hj
            have HJM := hid hj.fm
            obtain ⟨d0, hd0, _⟩ := HJM.out
            refine ⟨(j : Int), d0, 0, fun g h B c ch d w X F Y => ?_, fun g h B c ch d w X F Y => ?_⟩
            · rw [hl]
              refine sNear_ok g (some ⟨h, 0, none⟩) B c ch d ns.length xs fs ns j d0 w X F Y h12.1 h12.2 hx ha hl rfl hm HJM.out hd0 fun w' hg => ?_
              have := sAsked_3 g (some ⟨h, 0, none⟩) B c ch d fs.length ns.length xs 0 w' (hid (X.out.keep hg)) hn hw hx (by rw [if_pos h12]) fun w'' hg' => hP h B ch d w'' (hid (F.out.keep (hg.trans hg'))) (hid (Y.out.keep (hg.trans hg')))
              rwa [hl] at this
            · rw [hl]
              refine iNear_ok _ _ _ xs.length (hts xs fs ns ns.length) j d0 w (hts_len _ _ _ _) h12.1 h12.2 HJM.out hd0 fun w' hg => ?_
              exact iHitsOf _ _ B c ch d ns.length xs fs ns w' (hid (X.out.keep hg)) (hid (F.out.keep hg)) (hid (Y.out.keep hg)) h12.1 h12.2 hw hx ha hl rfl hr hm
          · exact ⟨0, 0, 2, fun g h B c ch d w X F Y => sNear_no _ _ _ 2 w (by decide) fun w' hg => sAsked_3 g _ B c ch d _ _ xs 2 w' (hid (X.out.keep hg)) hn hw hx (by rw [if_neg h12]) fun w'' hg' => hP h B ch d w'' (hid (F.out.keep (hg.trans hg'))) (hid (Y.out.keep (hg.trans hg'))),
              fun g h B c ch d w X F Y => iNear_no _ _ _ 2 w (by decide) fun w' hg => iHits_3 _ _ B c ch d _ _ xs w' (hid (X.out.keep hg)) hn hw hx h12 fun w'' hg' => hT h B ch d w'' (hid (F.out.keep (hg.trans hg'))) (hid (Y.out.keep (hg.trans hg')))⟩
      · exact ⟨0, 0, 2, sErr (.inr hl),
          fun g h B c ch d w X F Y => iNear_no _ _ _ 2 w (by decide) fun w' hg => iHits_2 _ _ B c ch d _ _ xs 2 w' (hid (X.out.keep hg)) hn hw hx (by decide) fun w'' hg' => iTrial_2 _ B ch d _ fs w'' (hid (F.out.keep (hg.trans hg'))) hf ha hl⟩
end Go.Proofs.Ytpadjkgbeijkpaa
