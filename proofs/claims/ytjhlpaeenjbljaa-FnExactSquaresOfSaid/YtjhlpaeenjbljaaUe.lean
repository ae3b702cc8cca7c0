/- RESIDUALS: WorstObs of the reference and of the program. -/
import Derived.Test.YtjhlpaeenjbljaaUd
namespace Go.Proofs.Ytjhlpaeenjbljaa
open Go.RowKit Go.Sort

theorem rsdL_all {xs : List Obv} {ys : List (Int × Int)} (h : RsdAll xs ys) (hob : xs.all (fun x => obB x ys.length) = true) : allF (rsdL xs ys) = true := by
  unfold allF rsdL
  rw [List.all_eq_true]
  intro z hz
  rw [List.mem_map] at hz
  obtain ⟨x, hx, rfl⟩ := hz
  obtain ⟨k, hk, he⟩ := List.getElem_of_mem hx
  obtain ⟨u, v, hr⟩ := h k x (by rw [List.getElem?_eq_getElem hk, he])
  unfold rsdA
  rw [hr]
  exact rsd_ok (ob_ok (List.all_eq_true.1 hob x hx)).1 _ u v hr
/-- ResidualsOf, of both sides, with what is known of the residuals -/
theorem bothRO (n : Int) (b : Bool) (p q : Int) (xs : List Obv) (ys : List (Int × Int)) (hn : xs.length ≤ 1048576) (hm : ys.length ≤ 1048576) (hw : xs.all wfE = true) : ∃ (zs : List (Int × Int)) (C : Int), zs.length ≤ 24 ∧ allF zs = true ∧ (C = 0 → zs.length = xs.length ∧ tblB n b p q xs = true ∧ allF ys = true ∧ (ys.length : Int) = n) ∧
    (∀ (g : Nat) (B : Option Addr) (c d : Nat) (w : World), Hid (RdO w (some ⟨g, 0, none⟩) xs) → Hid (RdF w B ys) → Calls Try.prog 24 #[tbl n (some ⟨g, 0, none⟩) xs.length c b p q, .slice B ys.length d] w fun e w' => GivesF w w' e zs C) ∧
    (∀ (g : Nat) (B : Option Addr) (c d : Nat) (w : World), Hid (RdO w (some ⟨g, 0, none⟩) xs) → Hid (RdF w B ys) → Calls Try.prog 27 #[tbl n (some ⟨g, 0, none⟩) xs.length c b p q, .slice B ys.length d] w fun e w' => GivesF w w' e zs C) := by
  obtain ⟨C, hC⟩ : ∃ C, askC n b p q xs ys = C := ⟨_, rfl⟩
  cases h0 : (C == 0) with
  | false => exact ⟨[], C, by simp, rfl, fun h => (by subst h; cases h0), fun g B c d w X Y => sRO_no n g c b p q xs B d ys C w X Y hn hm hw hC h0, fun g B c d w X Y => iRO_no n _ c b p q xs B d ys C w X Y hn hm hw hC h0⟩
  | true =>
    obtain rfl : C = 0 := by simpa using h0
    obtain ⟨ht, hall, hl⟩ := ask_zero hC
    by_cases hv : RsdAll xs ys
    · subst hl
      obtain ⟨hl24, hl1, hl6, hob⟩ := tb_obs ht
      exact ⟨rsdL xs ys, 0, by rw [rsdL_len]; omega, rsdL_all hv hob, fun _ => ⟨rsdL_len _ _, ht, hall, rfl⟩, fun g B c d w X Y => (sRO_yes _ g c b p q xs B d ys w X Y hw hC).mono fun e w' h => (pickF h).1 hv, fun g B c d w X Y => (iRO_yes _ _ c b p q xs B d ys w X Y hw hC).mono fun e w' h => (pickF h).1 hv⟩
    · exact ⟨[], 3, by simp, rfl, fun h => (by cases h), fun g B c d w X Y => (sRO_yes n g c b p q xs B d ys w X Y hw hC).mono fun e w' h => (pickF h).2 hv, fun g B c d w X Y => (iRO_yes n _ c b p q xs B d ys w X Y hw hC).mono fun e w' h => (pickF h).2 hv⟩

/-- the first of the greatest sizes among k numbers -/
def cmpRz (zs : List (Int × Int)) (k b : Nat) : Int := cmpI (absI (zs.getD k (0, 0)).1) (zs.getD k (0, 0)).2 (absI (zs.getD b (0, 0)).1) (zs.getD b (0, 0)).2
def wstR (zs : List (Int × Int)) : Nat → Nat
  | 0 => 0
  | k + 1 => if 0 < cmpRz zs k (wstR zs k) then k else wstR zs k
theorem wstR_lt (zs : List (Int × Int)) : ∀ k, k ≤ zs.length → 0 < zs.length → wstR zs k < zs.length
  | 0, _, h => h
  | k + 1, hk, h => by
    unfold wstR
    split
    · omega
    · exact wstR_lt zs k (by omega) h
theorem wstR_one (zs : List (Int × Int)) : wstR zs 1 = 0 := by unfold wstR; split <;> rfl
theorem cmpRz_of {zs : List (Int × Int)} {k b : Nat} {p q r s : Int} (h1 : zs[k]? = some (p, q)) (h2 : zs[b]? = some (r, s)) : cmpRz zs k b = cmpI (absI p) q (absI r) s := by
  simp [cmpRz, List.getD_eq_getElem?_getD, h1, h2]
def woI (zs : List (Int × Int)) (C : Int) : Int := if C = 0 then (if zs.length = 0 then 0 else (wstR zs zs.length : Int)) else 0
def woF (zs : List (Int × Int)) (C : Int) : Int × Int := if C = 0 then (if zs.length = 0 then (0, 0) else zs.getD (wstR zs zs.length) (0, 0)) else (0, 0)
def woC (zs : List (Int × Int)) (C : Int) : Int := if C = 0 then (if zs.length = 0 then 6 else 0) else C
set_option maxRecDepth 20000 in
set_option maxHeartbeats 1000000 in
theorem sWorst (n : Int) (g c : Nat) (b : Bool) (p q : Int) (xs : List Obv) (B : Option Addr) (d : Nat) (ys : List (Int × Int)) (zs : List (Int × Int)) (C : Int) (w : World) (X : Hid (RdO w (some ⟨g, 0, none⟩) xs)) (Y : Hid (RdF w B ys)) (hz : zs.length ≤ 24) (hall : allF zs = true)
    (hR : ∀ (w : World), Hid (RdO w (some ⟨g, 0, none⟩) xs) → Hid (RdF w B ys) → Calls Try.prog 24 #[tbl n (some ⟨g, 0, none⟩) xs.length c b p q, .slice B ys.length d] w fun e w' => GivesF w w' e zs C) :
    Calls Try.prog 36 #[tbl n (some ⟨g, 0, none⟩) xs.length c b p q, .slice B ys.length d] w fun e w' => e = .returned (.tuple #[.int .i64 (woI zs C), fr (woF zs C).1 (woF zs C).2, .int .i64 (woC zs C)]) ∧ Gr w w' := by
  have HR := hid hR; have HALL := hid hall
  clear hR hall
  go_enter Try.func36, Try.ntmps36
  go_wp2_with fail
  refine (HR.out _ (hid (X.out.keep (((Gr.refl w).al _).al _))) (hid (Y.out.keep (((Gr.refl w).al _).al _)))).mono ?_
  rintro e w1 ⟨A, k, rfl, own, hg⟩
  have X1 := hid (alloc2 hg).2.1; have X0 := hid (alloc2 hg).1; have G1 := hid (alloc2 hg).2.2.2
  have RD := hid (RdF.of_ownF own)
  obtain ⟨_, _⟩ := cells2 X1.out
  have _ := fz X1.out
  have _ := ltb X1.out
  clear hg own
  by_cases hC : C = 0
  · subst hC
    by_cases hz0 : zs.length = 0
    · have hz0' : ((zs.length : Int) == 0) = true := by simpa using hz0
      go_wp2_with fail
      refine bodyPost_ret (v := .tuple #[.int .i64 0, fr 0 0, .int .i64 6]) (by simp [results, Try.results36, go_sem, *]) rfl ⟨by simp [woI, woF, woC, hz0], ?_⟩
      exact (G1.out.setCell (by simp) _).setCell (by simp) _
    · have hz0' : ((zs.length : Int) == 0) = false := by simpa using hz0
      have HZ0 := hid hz0; clear hz0
      go_wp2_with fail
      go_loopw [9, 10] (fun U V wr => ∃ (j : Nat), V = .int .i64 ((j : Int) + 1) ∧ U = .int .i64 (wstR zs (j + 1) : Int) ∧ j + 1 ≤ zs.length ∧ Gr w1 wr) (fun _ V _ => zs.length - (intOf V).toNat)
      case atStart => exact ⟨0, rfl, by rw [wstR_one]; rfl, by have := HZ0.out; omega, Gr.refl _⟩
      case round =>
        obtain ⟨j, rfl, rfl, hj, hg⟩ := hrel
        have GW := hid hg; clear hg
        have hb := wstR_lt zs (j + 1) hj (by omega)
        by_cases hlt : j + 1 < zs.length
        · obtain ⟨⟨P, Q⟩, h0⟩ : ∃ pq, zs[j + 1]? = some pq := ⟨zs[j + 1], List.getElem?_eq_getElem _⟩
          obtain ⟨⟨R, S⟩, h1⟩ : ∃ pq, zs[wstR zs (j + 1)]? = some pq := ⟨zs[wstR zs (j + 1)], List.getElem?_eq_getElem _⟩
          have o0 := allF_get HALL.out h0; have o1 := allF_get HALL.out h1
          obtain ⟨ad, rfl, c1, c2⟩ := (RD.out.keep GW.out) _ P Q h0
          obtain ⟨ad1, e1, c3, c4⟩ := (RD.out.keep GW.out) _ R S h1
          cases e1
          have hst : wstR zs (j + 1 + 1) = if 0 < cmpI (absI P) Q (absI R) S then j + 1 else wstR zs (j + 1) := by rw [← cmpRz_of h0 h1]; rfl
          generalize wstR zs (j + 1) = W at *
          have hcm := fun w => scmp_ok (absI P) Q (absI R) S w (absI_bd o0) (absI_bd o1)
          generalize cmpI (absI P) Q (absI R) S = K at *
          have HCM := hid hcm; have HST := hid hst; have O0 := hid o0; have O1 := hid o1
          have C1 := hid c1; have C2 := hid c2; have C3 := hid c3; have C4 := hid c4
          clear hcm hst o0 o1 h0 h1
          go_wp2_with fail
          refine wp_reg0 11 (by kernel_rfl) (by kernel_rfl) ?_
          apply Exists.intro
          refine ⟨fun wb hb => ?_, ?_⟩
          · have _ := hb.atF C1.out; have _ := hb.atF C2.out; have _ := hb.atF C3.out; have _ := hb.atF C4.out
            simp only [headOps, List.contains, List.elem, reduceIte, Bool.false_eq_true]
            repeat (first | go_big_quiet_step (first | (go_at_call 86; exact Calls.of_gr (HCM.out _)) | (go_at_call 87; refine Calls.of_gr (ssize _ _ _ ?_); first | exact O0.out | exact O1.out)) | quiet_step (fail))
            exact wpQuiet_nil rfl
          intro w3 hg3
          have G3 := hid (GW.out.trans hg3); clear hg3 c1 c2 c3 c4
          by_cases hK : 0 < K
          · go_wp2_with fail
            exact ⟨⟨j + 1, by simp, by rw [HST.out, if_pos hK]; simp, by omega, G3.out⟩, by simp [intOf]; omega⟩
          · go_wp2_with fail
            exact ⟨⟨j + 1, by simp, by rw [HST.out, if_neg hK], by omega, G3.out⟩, by simp [intOf]; omega⟩
        · have hje : j + 1 = zs.length := by omega
          obtain ⟨⟨R, S⟩, h1⟩ : ∃ pq, zs[wstR zs (j + 1)]? = some pq := ⟨zs[wstR zs (j + 1)], List.getElem?_eq_getElem _⟩
          obtain ⟨ad1, rfl, c3, c4⟩ := (RD.out.keep GW.out) _ R S h1
          have hF : woF zs 0 = (R, S) := by unfold woF; rw [if_pos rfl, if_neg HZ0.out, ← hje, List.getD_eq_getElem?_getD, h1]; rfl
          have hI : woI zs 0 = (wstR zs (j + 1) : Int) := by unfold woI; rw [if_pos rfl, if_neg HZ0.out, hje]
          have hCC : woC zs 0 = 0 := by unfold woC; rw [if_pos rfl, if_neg HZ0.out]
          generalize wstR zs (j + 1) = W at *
          have Y1 := hid (GW.out.keep X1.out)
          obtain ⟨_, _⟩ := cells2 Y1.out
          have _ := fz Y1.out
          have _ := ltb Y1.out
          have GG := hid (G1.out.trans GW.out)
          have HF := hid hF; have HI := hid hI; have HCC := hid hCC
          clear hF hI hCC h1
          go_wp2_with fail
          go_region
          all_goals
            go_wp2_with fail
            refine bodyPost_ret (v := .tuple #[.int .i64 (W : Int), fr R S, .int .i64 0]) (by simp [results, Try.results36, go_sem, *]) rfl ⟨by rw [HF.out, HI.out, HCC.out], ?_⟩
            exact ((GG.out.trans (Gr.drew _)).setCell (by simp) _).setCell (by simp) _
  · have hC' : (C == 0) = false := by simpa using hC
    go_wp2_with fail
    refine bodyPost_ret (v := .tuple #[.int .i64 0, fr 0 0, .int .i64 C]) (by simp [results, Try.results36, go_sem, *]) rfl ⟨by simp [woI, woF, woC, hC], ?_⟩
    exact (G1.out.setCell (by simp) _).setCell (by simp) _
set_option maxRecDepth 20000 in
set_option maxHeartbeats 1000000 in
theorem iWorst (n : Int) (g c : Nat) (b : Bool) (p q : Int) (xs : List Obv) (B : Option Addr) (d : Nat) (ys : List (Int × Int)) (zs : List (Int × Int)) (C : Int) (w : World) (X : Hid (RdO w (some ⟨g, 0, none⟩) xs)) (Y : Hid (RdF w B ys)) (hz : zs.length ≤ 24) (hall : allF zs = true)
    (hR : ∀ (w : World), Hid (RdO w (some ⟨g, 0, none⟩) xs) → Hid (RdF w B ys) → Calls Try.prog 27 #[tbl n (some ⟨g, 0, none⟩) xs.length c b p q, .slice B ys.length d] w fun e w' => GivesF w w' e zs C) :
    Calls Try.prog 37 #[tbl n (some ⟨g, 0, none⟩) xs.length c b p q, .slice B ys.length d] w fun e w' => e = .returned (.tuple #[.int .i64 (woI zs C), fr (woF zs C).1 (woF zs C).2, .int .i64 (woC zs C)]) ∧ Gr w w' := by
  have HR := hid hR; have HALL := hid hall
  clear hR hall
  go_enter Try.func37, Try.ntmps37
  go_wp2_with fail
  refine (HR.out _ (hid (X.out.keep (((Gr.refl w).al _).al _))) (hid (Y.out.keep (((Gr.refl w).al _).al _)))).mono ?_
  rintro e w1 ⟨A, k, rfl, own, hg⟩
  have X1 := hid (alloc2 hg).2.1; have X0 := hid (alloc2 hg).1; have G1 := hid (alloc2 hg).2.2.2
  have RD := hid (RdF.of_ownF own)
  obtain ⟨_, _⟩ := cells2 X1.out
  have _ := fz X1.out
  have _ := ltb X1.out
  clear hg own
  by_cases hC : C = 0
  · subst hC
    by_cases hz0 : zs.length = 0
    · have hz0' : ((zs.length : Int) == 0) = true := by simpa using hz0
      go_wp2_with fail
      refine bodyPost_ret (v := .tuple #[.int .i64 0, fr 0 0, .int .i64 6]) (by simp [results, Try.results37, go_sem, *]) rfl ⟨by simp [woI, woF, woC, hz0], ?_⟩
      exact (G1.out.setCell (by simp) _).setCell (by simp) _
    · have hz0' : ((zs.length : Int) == 0) = false := by simpa using hz0
      have HZ0 := hid hz0; clear hz0
      go_wp2_with fail
      go_loopw [9, 28] (fun U V wr => ∃ (j : Nat), V = .int .i64 (j : Int) ∧ U = .int .i64 (wstR zs j : Int) ∧ j ≤ zs.length ∧ Gr w1 wr) (fun _ V _ => zs.length - (intOf V).toNat)
      case atStart => exact ⟨0, rfl, rfl, by omega, Gr.refl _⟩
      case round =>
        obtain ⟨j, rfl, rfl, hj, hg⟩ := hrel
        have GW := hid hg; clear hg
        have hb := wstR_lt zs j hj (by have := HZ0.out; omega)
        by_cases hlt : j < zs.length
        · obtain ⟨⟨P, Q⟩, h0⟩ : ∃ pq, zs[j]? = some pq := ⟨zs[j], List.getElem?_eq_getElem _⟩
          obtain ⟨⟨R, S⟩, h1⟩ : ∃ pq, zs[wstR zs j]? = some pq := ⟨zs[wstR zs j], List.getElem?_eq_getElem _⟩
          have o0 := allF_get HALL.out h0; have o1 := allF_get HALL.out h1
          obtain ⟨ad, rfl, c1, c2⟩ := (RD.out.keep GW.out) _ P Q h0
          obtain ⟨ad1, e1, c3, c4⟩ := (RD.out.keep GW.out) _ R S h1
          cases e1
          have hst : wstR zs (j + 1) = if 0 < cmpI (absI P) Q (absI R) S then j else wstR zs j := by rw [← cmpRz_of h0 h1]; rfl
          generalize wstR zs j = W at *
          have hcm := fun w => iord (absI P) Q (absI R) S w (absI_bd o0) (absI_bd o1)
          generalize cmpI (absI P) Q (absI R) S = K at *
          have HCM := hid hcm; have HST := hid hst; have O0 := hid o0; have O1 := hid o1
          obtain ⟨ad2, e2, d3, d4⟩ := (RD.out.keep (GW.out.al (.cells #[.int .i64 P, .int .i64 Q] 24))) _ R S h1
          cases e2
          have C3 := hid d3; have C4 := hid d4
          clear hcm hst o0 o1 h0 h1 d3 d4
          go_wp2_with fail
          refine wp_reg0 8 (by kernel_rfl) (by kernel_rfl) ?_
          apply Exists.intro
          refine ⟨fun wb hb => ?_, ?_⟩
          · obtain ⟨_, _⟩ := hb.at2 (alloc1 (w := wr) (A := .cells #[.int .i64 P, .int .i64 Q] 24) (Gr.refl _)).1
            have _ := hb.atF C3.out; have _ := hb.atF C4.out
            simp only [headOps, List.contains, List.elem, reduceIte, Bool.false_eq_true]
            repeat (first | go_big_quiet_step (first | (go_at_call 66; exact Calls.of_gr (HCM.out _)) | (go_at_call 65; refine Calls.of_gr (isize_gr _ _ _ ?_); first | exact O0.out | exact O1.out)) | quiet_step (fail))
            exact wpQuiet_nil rfl
          intro w3 hg3
          have G3 := hid ((GW.out.al (.cells #[.int .i64 P, .int .i64 Q] 24)).trans hg3); clear hg3 c1 c2 c3 c4
          by_cases hK : 0 < K
          · go_wp2_with fail
            exact ⟨⟨j + 1, by simp, by rw [HST.out, if_pos hK], by omega, G3.out⟩, by simp [intOf]; omega⟩
          · go_wp2_with fail
            exact ⟨⟨j + 1, by simp, by rw [HST.out, if_neg hK], by omega, G3.out⟩, by simp [intOf]; omega⟩
        · have hje : j = zs.length := by omega
          obtain ⟨⟨R, S⟩, h1⟩ : ∃ pq, zs[wstR zs j]? = some pq := ⟨zs[wstR zs j], List.getElem?_eq_getElem _⟩
          obtain ⟨ad1, rfl, c3, c4⟩ := (RD.out.keep GW.out) _ R S h1
          have hF : woF zs 0 = (R, S) := by unfold woF; rw [if_pos rfl, if_neg HZ0.out, ← hje, List.getD_eq_getElem?_getD, h1]; rfl
          have hI : woI zs 0 = (wstR zs j : Int) := by unfold woI; rw [if_pos rfl, if_neg HZ0.out, hje]
          have hCC : woC zs 0 = 0 := by unfold woC; rw [if_pos rfl, if_neg HZ0.out]
          generalize wstR zs j = W at *
          have Y1 := hid (GW.out.keep X1.out)
          obtain ⟨_, _⟩ := cells2 Y1.out
          have _ := fz Y1.out
          have _ := ltb Y1.out
          have GG := hid (G1.out.trans GW.out)
          have HF := hid hF; have HI := hid hI; have HCC := hid hCC
          clear hF hI hCC h1
          go_wp2_with fail
          go_region
          all_goals
            go_wp2_with fail
            refine bodyPost_ret (v := .tuple #[.int .i64 (W : Int), fr R S, .int .i64 0]) (by simp [results, Try.results37, go_sem, *]) rfl ⟨by rw [HF.out, HI.out, HCC.out], ?_⟩
            exact ((GG.out.trans (Gr.drew _)).setCell (by simp) _).setCell (by simp) _
  · have hC' : (C == 0) = false := by simpa using hC
    go_wp2_with fail
    refine bodyPost_ret (v := .tuple #[.int .i64 0, fr 0 0, .int .i64 C]) (by simp [results, Try.results37, go_sem, *]) rfl ⟨by simp [woI, woF, woC, hC], ?_⟩
    exact (G1.out.setCell (by simp) _).setCell (by simp) _
theorem bothWorstObs (n : Int) (b : Bool) (p q : Int) (xs : List Obv) (ys : List (Int × Int)) (hn : xs.length ≤ 1048576) (hm : ys.length ≤ 1048576) (hw : xs.all wfE = true) : ∃ R0 P1 Q1 R2 : Int,
    (∀ (g : Nat) (A : Option Addr) (c d : Nat) (w : World), xs.length ≤ c → ys.length ≤ d → Hid (RdO w (some ⟨g, 0, none⟩) xs) → Hid (RdF w A ys) → Calls Try.prog 36 #[tbl n (some ⟨g, 0, none⟩) xs.length c b p q, .slice A ys.length d] w fun x w' => x = .returned (.tuple #[.int .i64 R0, fr P1 Q1, .int .i64 R2]) ∧ Gr w w') ∧
    (∀ (g : Nat) (A : Option Addr) (c d : Nat) (w : World), xs.length ≤ c → ys.length ≤ d → Hid (RdO w (some ⟨g, 0, none⟩) xs) → Hid (RdF w A ys) → Calls Try.prog 37 #[tbl n (some ⟨g, 0, none⟩) xs.length c b p q, .slice A ys.length d] w fun x w' => x = .returned (.tuple #[.int .i64 R0, fr P1 Q1, .int .i64 R2]) ∧ Gr w w') := by
  obtain ⟨zs, C, hz, hall, _, hs, hi⟩ := bothRO n b p q xs ys hn hm hw
  exact ⟨_, _, _, _, fun g A c d w _ _ X Y => sWorst n g c b p q xs A d ys zs C w X Y hz hall (fun w X Y => hs g A c d w X Y), fun g A c d w _ _ X Y => iWorst n g c b p q xs A d ys zs C w X Y hz hall (fun w X Y => hi g A c d w X Y)⟩
end Go.Proofs.Ytjhlpaeenjbljaa
