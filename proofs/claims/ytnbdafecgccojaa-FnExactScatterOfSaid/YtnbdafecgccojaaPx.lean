/- MEDIANS: of the reference. -/
import Derived.Test.YtnbdafecgccojaaPq
import Derived.Test.YtnbdafecgccojaaPc
namespace Go.Proofs.Ytnbdafecgccojaa
open Go.RowKit Go.Sort

theorem bdI_of {xs : List Int} (h : xs.all okR = true) : bdI xs := fun x hx => by
  have := okR_bd (List.all_eq_true.1 h x hx)
  omega
theorem twM_bd {xs : List Int} (h0 : 0 < xs.length) (h : xs.all okR = true) : -2000000 ≤ twM xs ∧ twM xs ≤ 2000000 := by
  have hk : ∀ k, k < xs.length → -1000000 ≤ (srt xs).getD k 0 ∧ (srt xs).getD k 0 ≤ 1000000 := fun k hk => by
    have hk' : k < (srt xs).length := by rw [srt_len]; exact hk
    rw [getD_lt hk']
    exact okR_bd (List.all_eq_true.1 h _ (srt_mem (List.getElem_mem hk')))
  have a := hk ((xs.length - 1) / 2) (by omega)
  have b := hk (xs.length / 2) (by omega)
  unfold twM
  omega
set_option maxRecDepth 20000 in
set_option maxHeartbeats 1000000 in
theorem sMedian_no (A : Option Addr) (c : Nat) (xs : List Int) (w : World) (X : Hid (RdI w A xs)) (hn : xs.length ≤ 1048576) (h : rdB xs = false) :
    Calls Try.prog 36 #[.slice A xs.length c] w fun e w' => e = .returned (.tuple #[fr 0 0, .int .i64 2]) ∧ Gr w w' := by
  have H := hid h; clear h
  go_enter Try.func36, Try.ntmps36
  go_wp2_with fail
  refine (sReadings_no A c xs _ (hid (X.out.keep ((Gr.refl _).al _))) hn H.out).mono ?_
  rintro e w1 ⟨rfl, hg1⟩
  obtain ⟨x1_0, hz1, g1⟩ := alloc1 hg1
  obtain ⟨_, _⟩ := cells2 x1_0
  have _ := fz x1_0
  have _ := ltb x1_0
  have X1_0 := hid x1_0; clear x1_0
  have G1 := hid (g1)
  clear hg1 g1
  go_wp2
  refine bodyPost_ret (v := .tuple #[fr 0 0, .int .i64 2]) (by simp [results, Try.results36, go_sem, *]) rfl ⟨rfl, ?_⟩
  exact ((G1.out).setCell (by simp <;> omega) _).setCell (by simp <;> omega) _
set_option maxRecDepth 20000 in
set_option maxHeartbeats 1000000 in
theorem sMedian_yes (A : Option Addr) (c : Nat) (xs : List Int) (w : World) (X : Hid (RdI w A xs)) (h : rdB xs = true) :
    Calls Try.prog 36 #[.slice A xs.length c] w fun e w' => e = .returned (.tuple #[fr (redP (twM xs) 2) (redQ (twM xs) 2), .int .i64 0]) ∧ Gr w w' := by
  obtain ⟨h1, h64, ha⟩ := rd_parts h
  obtain ⟨b1, b2⟩ := twM_bd h1 ha
  have HR : Hid (∀ w, Calls Try.prog 99 #[.int .i64 (twM xs), .int .i64 2] w fun x w' => x = .returned (.tuple #[fr (redP (twM xs) 2) (redQ (twM xs) 2), .int .i64 0]) ∧ Gr w w') := hid fun w => by
    have hh := sred_any (twM xs) 2 w (by omega) (by omega) (by omega) (by omega) (by omega)
    have hk := ok_red (p := twM xs) (q := 2) (by omega) (by omega) (by omega) (by omega)
    unfold rP rQ rC at hh
    rw [hk] at hh
    simpa using hh
  have H := hid h; have HB := hid (bdI_of ha)
  clear h ha
  go_enter Try.func36, Try.ntmps36
  go_wp2_with fail
  refine (sReadings_yes A c xs _ (hid (X.out.keep ((Gr.refl _).al _))) H.out).mono ?_
  rintro e w1 ⟨rfl, hg1⟩
  obtain ⟨x1_0, hz1, g1⟩ := alloc1 hg1
  obtain ⟨_, _⟩ := cells2 x1_0
  have _ := fz x1_0
  have _ := ltb x1_0
  have X1_0 := hid x1_0; clear x1_0
  have G1 := hid (g1)
  clear hg1 g1
  go_wp2_with fail
  refine (sTwice A c xs _ (hid (X.out.keep G1.out)) h1 (by omega) HB.out).mono ?_
  rintro e w2 ⟨rfl, hg2⟩
  have x2_1 := hg2.keep X1_0.out
  obtain ⟨_, _⟩ := cells2 x2_1
  have _ := fz x2_1
  have _ := ltb x2_1
  have X2_1 := hid x2_1; clear x2_1
  have G2 := hid (G1.out.trans hg2)
  clear hg2
  go_wp2_with fail
  refine (HR.out _).mono ?_
  rintro e w3 ⟨rfl, hg3⟩
  have x3_1 := hg3.keep X2_1.out
  obtain ⟨_, _⟩ := cells2 x3_1
  have _ := fz x3_1
  have _ := ltb x3_1
  have X3_1 := hid x3_1; clear x3_1
  have G3 := hid (G2.out.trans hg3)
  clear hg3
  go_wp2
  refine bodyPost_ret (v := .tuple #[fr (redP (twM xs) 2) (redQ (twM xs) 2), .int .i64 0]) (by simp [results, Try.results36, go_sem, *]) rfl ⟨rfl, ?_⟩
  exact ((G3.out).setCell (by simp <;> omega) _).setCell (by simp <;> omega) _
/-! distances -/
/-- Two times how far each lies from the median. -/
def dstI (M : Int) (xs : List Int) : List Int := xs.map fun x => ((2 * x - M).natAbs : Int)
theorem dstI_len (M : Int) (xs : List Int) : (dstI M xs).length = xs.length := by simp [dstI]
theorem dstI_take {M : Int} {xs : List Int} {k : Nat} {p : Int} (h : xs[k]? = some p) : (dstI M xs).take (k + 1) = (dstI M xs).take k ++ [((2 * p - M).natAbs : Int)] := by
  rw [List.take_add_one]
  simp [dstI, h]
theorem dstI_bd {M : Int} {xs : List Int} (hM : -2000000 ≤ M ∧ M ≤ 2000000) (h : xs.all okR = true) : ∀ x ∈ dstI M xs, 0 ≤ x ∧ x ≤ 4000000 := fun x hx => by
  obtain ⟨y, hy, rfl⟩ := List.mem_map.1 hx
  have := okR_bd (List.all_eq_true.1 h y hy)
  omega
set_option maxRecDepth 20000 in
set_option maxHeartbeats 2000000 in
theorem sDist (A : Option Addr) (c : Nat) (xs : List Int) (w : World) (X : Hid (RdI w A xs)) (h0 : 0 < xs.length) (hn : xs.length ≤ 64) (ha : xs.all okR = true) :
    Calls Try.prog 103 #[.slice A xs.length c] w fun e w' => ∃ A' c', e = .returned (.slice A' xs.length c') ∧ w'.ownsRow w.heap.size 2 1 (.slice A' xs.length c') xs.length ((dstI (twM xs) xs).map (.int .i64 ·)) ∧ Gr w w' := by
  obtain ⟨i0, hi, iz0, iz1, iz2⟩ : ∃ i, Try.prog.info? 2 = some i ∧ i.zero = some (.int .i64 0) ∧ i.size = 1 ∧ i.bytes = 8 := ⟨_, rfl, rfl, rfl, rfl⟩
  have HT := hid (sTwice A c xs w X h0 (by omega) (bdI_of ha))
  have hbd := twM_bd h0 ha
  obtain ⟨M, hM⟩ : ∃ M, twM xs = M := ⟨_, rfl⟩
  rw [hM] at HT hbd ⊢
  obtain ⟨m1, m2⟩ := hbd
  have HA := hid ha
  clear ha hM
  go_enter Try.func103, Try.ntmps103
  go_wp2_with fail
  refine HT.out.mono ?_
  rintro e w1 ⟨rfl, hg1⟩
  have G1 := hid hg1
  have hsz1 := hg1.size
  clear hg1 HT
  go_wp2_with fail
  go_loopw [4, 5] (fun v u wr => ∃ (k : Nat) (A' : Option Addr) (c' : Nat), u = .int .i64 (k : Int) ∧ v = .slice A' k c' ∧ k ≤ xs.length ∧ Gr w wr ∧ wr.ownsRow w.heap.size 2 1 (.slice A' k c') k (((dstI M xs).take k).map (.int .i64 ·))) (fun _ u _ => xs.length - (intOf u).toNat)
  case atStart => exact ⟨0, _, _, rfl, rfl, by omega, G1.out.al _, World.ownsRow_made _ #[] 0 hsz1 (by simp [maxLen]) (by simp)⟩
  case round =>
    obtain ⟨k, A', c', rfl, rfl, hk, hg, hown⟩ := hrel
    have GW := hid hg; have OWN := hid hown
    clear hg hown
    by_cases hlt : k < xs.length
    · obtain ⟨p, hp⟩ : ∃ p, xs[k]? = some p := ⟨xs[k], List.getElem?_eq_getElem _⟩
      obtain ⟨ad, rfl, cp⟩ := (X.out.keep GW.out) k p hp
      obtain ⟨p1, p2⟩ := okR_bd (allI_get hp HA.out)
      have htk := dstI_take (M := M) hp
      obtain ⟨r, hr⟩ : ∃ r, ((2 * p - M).natAbs : Int) = r := ⟨_, rfl⟩
      rw [hr] at htk
      have HTK := hid htk; have HRR := hid hr
      have OWN3 := hid (own_gr OWN.out ((Gr.refl _).al (.cells #[.int .i64 r] 2)))
      have NEW := hid (one_news (w := wr.alloc (.cells #[.int .i64 r] 2)) (b := wr.heap.size) (alloc1 (Gr.refl _)).1)
      have G3 := hid (GW.out.al (.cells #[.int .i64 r] 2))
      have hsz := G3.out.size
      clear hp htk hr OWN
      go_wp2_with (first | (go_at_call 162; refine (abs_any _ _ (by omega) (by omega)).mono ?_; rintro e w4 ⟨rfl, rfl⟩; rw [HRR.out]) | (at_builtin; refine (wpList_append_gr rfl _ _ 59 rfl w.heap.size 2 i0 (.int .i64 0) 1 8 Try.underlying59 hi iz0 iz1 iz2 rfl (by decide) _ k _ rfl OWN3.out ⟨wr.heap.size, 0, none⟩ 1 1 [.int .i64 r] rfl rfl NEW.out (by simp [Value.oneCell']) (by decide) (by unfold maxLen; omega) (by omega) hsz ?_)))
      intro v' w6 own4 _ _ hgr
      obtain ⟨A2, c3, rfl⟩ := own_form own4
      have e2 : (((dstI M xs).take k).map (Value.int .i64 ·)) ++ [.int .i64 r] = ((dstI M xs).take (k + 1)).map (Value.int .i64 ·) := by rw [HTK.out]; simp
      simp only [← List.map_take] at own4
      rw [e2] at own4
      have OWN4 := hid own4
      have G6 := hid (hgr _ G3.out (Nat.le_refl _))
      clear own4 hgr e2 OWN3 NEW hsz
      go_wp2_with fail
      exact ⟨⟨k + 1, A2, c3, by simp, by simp, by omega, G6.out, OWN4.out⟩, by simp [intOf]; omega⟩
    · have hke : k = xs.length := by omega
      subst hke
      have h := OWN.out
      rw [List.take_of_length_le (by rw [dstI_len]; exact Nat.le_refl _)] at h
      have OW := hid h
      clear h
      go_wp2_with fail
      go_ret
      exact ⟨A', c', rfl, OW.out, GW.out⟩
set_option maxRecDepth 20000 in
set_option maxHeartbeats 1000000 in
theorem sScatter_no (A : Option Addr) (c : Nat) (xs : List Int) (w : World) (X : Hid (RdI w A xs)) (hn : xs.length ≤ 1048576) (h : rdB xs = false) :
    Calls Try.prog 40 #[.slice A xs.length c] w fun e w' => e = .returned (.tuple #[fr 0 0, .int .i64 2]) ∧ Gr w w' := by
  have H := hid h; clear h
  go_enter Try.func40, Try.ntmps40
  go_wp2_with fail
  refine (sReadings_no A c xs _ (hid (X.out.keep ((Gr.refl _).al _))) hn H.out).mono ?_
  rintro e w1 ⟨rfl, hg1⟩
  obtain ⟨x1_0, hz1, g1⟩ := alloc1 hg1
  obtain ⟨_, _⟩ := cells2 x1_0
  have _ := fz x1_0
  have _ := ltb x1_0
  have X1_0 := hid x1_0; clear x1_0
  have G1 := hid (g1)
  clear hg1 g1
  go_wp2
  refine bodyPost_ret (v := .tuple #[fr 0 0, .int .i64 2]) (by simp [results, Try.results40, go_sem, *]) rfl ⟨rfl, ?_⟩
  exact ((G1.out).setCell (by simp <;> omega) _).setCell (by simp <;> omega) _
/-- Four times the scatter. -/
def twS (xs : List Int) : Int := twM (dstI (twM xs) xs)
theorem twS_bd {xs : List Int} (h0 : 0 < xs.length) (h : xs.all okR = true) : 0 ≤ twS xs ∧ twS xs ≤ 8000000 ∧ bdI (dstI (twM xs) xs) := by
  have hd := dstI_bd (twM_bd h0 h) h
  have hl := dstI_len (twM xs) xs
  obtain ⟨ys, hy⟩ : ∃ ys, dstI (twM xs) xs = ys := ⟨_, rfl⟩
  unfold twS
  rw [hy] at hd hl ⊢
  have hk : ∀ k, k < ys.length → 0 ≤ (srt ys).getD k 0 ∧ (srt ys).getD k 0 ≤ 4000000 := fun k hk => by
    have hk' : k < (srt ys).length := by rw [srt_len]; exact hk
    rw [getD_lt hk']
    exact hd _ (srt_mem (List.getElem_mem hk'))
  have a := hk ((ys.length - 1) / 2) (by omega)
  have b := hk (ys.length / 2) (by omega)
  refine ⟨?_, ?_, fun x hx => by have := hd x hx; omega⟩ <;> unfold twM <;> omega
set_option maxRecDepth 20000 in
set_option maxHeartbeats 1000000 in
theorem sScatter_yes (A : Option Addr) (c : Nat) (xs : List Int) (w : World) (X : Hid (RdI w A xs)) (h : rdB xs = true) :
    Calls Try.prog 40 #[.slice A xs.length c] w fun e w' => e = .returned (.tuple #[fr (redP (twS xs) 4) (redQ (twS xs) 4), .int .i64 0]) ∧ Gr w w' := by
  obtain ⟨h1, h64, ha⟩ := rd_parts h
  obtain ⟨b1, b2, b3⟩ := twS_bd h1 ha
  have HR : Hid (∀ w, Calls Try.prog 99 #[.int .i64 (twS xs), .int .i64 4] w fun x w' => x = .returned (.tuple #[fr (redP (twS xs) 4) (redQ (twS xs) 4), .int .i64 0]) ∧ Gr w w') := hid fun w => by
    have hh := sred_any (twS xs) 4 w (by omega) (by omega) (by omega) (by omega) (by omega)
    have hk := ok_red (p := twS xs) (q := 4) (by omega) (by omega) (by omega) (by omega)
    unfold rP rQ rC at hh
    rw [hk] at hh
    simpa using hh
  have HD := hid fun (w : World) (X : Hid (RdI w A xs)) => sDist A c xs w X h1 h64 ha
  have HT := hid fun (A : Option Addr) (c : Nat) (w : World) (X : Hid (RdI w A (dstI (twM xs) xs))) => sTwice A c (dstI (twM xs) xs) w X (by rw [dstI_len]; exact h1) (by rw [dstI_len]; omega) b3
  rw [dstI_len] at HT
  have H := hid h
  clear h ha b3
  go_enter Try.func40, Try.ntmps40
  go_wp2_with fail
  refine (sReadings_yes A c xs _ (hid (X.out.keep ((Gr.refl _).al _))) H.out).mono ?_
  rintro e w1 ⟨rfl, hg1⟩
  obtain ⟨x1_0, hz1, g1⟩ := alloc1 hg1
  obtain ⟨_, _⟩ := cells2 x1_0
  have _ := fz x1_0
  have _ := ltb x1_0
  have X1_0 := hid x1_0; clear x1_0
  have G1 := hid (g1)
  clear hg1 g1
  have XR := hid X1_0.out
  go_wp2_with fail
  refine (HD.out _ (hid (X.out.keep G1.out))).mono ?_
  rintro e w2 ⟨A', c', rfl, own, hg⟩
  have RS := hid (RdI.of_own own); have G2 := hid (G1.out.trans hg); have Z1 := hid (hg.keep XR.out)
  have hgs := G2.out.size
  clear own hg
  obtain ⟨_, _⟩ := cells2 Z1.out
  have _ := fz Z1.out
  have _ := ltb Z1.out
  go_wp2_with fail
  refine (HT.out _ _ _ RS).mono ?_
  rintro e w4 ⟨rfl, hg4⟩
  have x4_1 := hg4.keep Z1.out
  obtain ⟨_, _⟩ := cells2 x4_1
  have _ := fz x4_1
  have _ := ltb x4_1
  have X4_1 := hid x4_1; clear x4_1
  have G4 := hid (G2.out.trans hg4)
  clear hg4
  go_wp2_with fail
  refine (HR.out _).mono ?_
  rintro e w5 ⟨rfl, hg5⟩
  have x5_1 := hg5.keep X4_1.out
  obtain ⟨_, _⟩ := cells2 x5_1
  have _ := fz x5_1
  have _ := ltb x5_1
  have X5_1 := hid x5_1; clear x5_1
  have G5 := hid (G4.out.trans hg5)
  clear hg5
  go_wp2
  refine bodyPost_ret (v := .tuple #[fr (redP (twS xs) 4) (redQ (twS xs) 4), .int .i64 0]) (by simp [results, Try.results40, go_sem, *]) rfl ⟨rfl, ?_⟩
  exact ((G5.out).setCell (by simp <;> omega) _).setCell (by simp <;> omega) _
end Go.Proofs.Ytnbdafecgccojaa
