/- TRIMMED MEAN: of both sides. -/
import Derived.Test.YtfcoigdmnmgohaaPv
namespace Go.Proofs.Ytfcoigdmnmgohaa
open Go.RowKit Go.Sort

/-- What stays of the sorted list. -/
def trim (xs : List Int) (e : Nat) : List Int := ((srt xs).drop e).take (xs.length - 2 * e)
theorem trim_len {xs : List Int} {e : Nat} (h : 2 * e < xs.length) : (trim xs e).length = xs.length - 2 * e := by simp [trim, srt_len]; omega
theorem trim_get {xs : List Int} {e k : Nat} (h : k < xs.length - 2 * e) : (trim xs e)[k]? = (srt xs)[e + k]? := by
  unfold trim
  rw [List.getElem?_take, if_pos h, List.getElem?_drop]
theorem trim_bd {xs : List Int} {e : Nat} (h : xs.all okR = true) : ∀ x ∈ trim xs e, -2000000 ≤ x ∧ x ≤ 2000000 := fun x hx => by
  have := okR_bd (List.all_eq_true.1 h x (srt_mem (List.mem_of_mem_drop (List.mem_of_mem_take hx))))
  omega
theorem add_at3 (g m k : Nat) : (⟨g, m, none⟩ : Addr).add k = ⟨g, m + k, none⟩ := by
  unfold Addr.add
  by_cases h : k = 0 <;> simp [h]
theorem imeanI' (A : Option Addr) (c m : Nat) (ys : List Int) (w : World) (X : Hid (RdI w A ys)) (hm : ys.length = m) (h1 : 1 ≤ m) (hn : m ≤ 64) (hb : ∀ x ∈ ys, -2000000 ≤ x ∧ x ≤ 2000000) :
    Calls Try.prog 106 #[.slice A m c, .func (.func 107) #[] #[]] w fun e w' => e = .returned (fr (redP (sumZ ys) m) (redQ (sumZ ys) m)) ∧ Gr w w' := by
  subst hm
  exact imeanI A c ys w X h1 hn hb
set_option maxRecDepth 20000 in
set_option maxHeartbeats 1000000 in
theorem cTrim (A : Option Addr) (c n e m : Nat) (xs : List Int) (w : World) (k1 k2 : Nat) (T1 T2 : TypeId) (X1 : Hid (w.heap[k1]? = some (.cells #[.int .i64 (e : Int)] T1))) (X2 : Hid (w.heap[k2]? = some (.cells #[.int .i64 (n : Int)] T2))) (X : Hid (RdI w A xs)) (hx : xs.length = n) (he : n = m + 2 * e) (hm : 1 ≤ m) (hn : n ≤ 64) (ha : xs.all okR = true) :
    Calls Try.prog 103 #[.slice A n c, .pointer (some ⟨k1, 0, none⟩), .pointer (some ⟨k2, 0, none⟩)] w fun x w' => x = .returned (fr (redP (sumZ (trim xs e)) m) (redQ (sumZ (trim xs e)) m)) ∧ Gr w w' := by
  have HSO := hid fun (w : World) (Bs : Nat) (X1 : Hid (w.heap[Bs]? = some (.cells #[.slice A xs.length c] 47))) (X : Hid (RdI w A xs)) => iSorted A c Bs xs w X1 X (by omega) (by omega)
  have hlt : (trim xs e).length = m := by rw [trim_len (by omega)]; omega
  have HM := hid fun (A : Option Addr) (c : Nat) (w : World) (X : Hid (RdI w A (trim xs e))) => imeanI' A c m (trim xs e) w X hlt hm (by omega) (trim_bd ha)
  have HT := hid fun (k : Nat) (h : k < m) => trim_get (xs := xs) (e := e) (k := k) (by omega)
  rw [hx] at HSO
  have hlr : (srt xs).length = n := by rw [srt_len, hx]
  have HLR := hid hlr; have HLT := hid hlt
  have he1 : m + 2 * e ≤ n := by omega
  have he2 : n ≤ m + 2 * e := by omega
  clear ha hx hlr hlt he
  go_enter Try.func103, Try.ntmps103
  have _ := cells1 X1.out
  have _ := fz X1.out
  have _ := ltb X1.out
  have _ := cells1 X2.out
  have _ := fz X2.out
  have _ := ltb X2.out
  go_wp2_with fail
  refine (iValuesOf A n c _).mono ?_
  rintro x w1 ⟨rfl, xb, hg⟩
  simp only [World.size_alloc] at xb
  have XB := hid xb; have G1 := hid hg
  clear xb hg
  go_wp2_with fail
  refine (HSO.out _ _ XB (hid (X.out.keep (((Gr.refl w).al _).trans G1.out)))).mono ?_
  rintro x w2 ⟨g, rest, rfl, xg, hg⟩
  obtain ⟨xr, _, hg2⟩ := alloc1 (G1.out.trans hg)
  have XG := hid xg; have G2 := hid hg2; have XR := hid xr
  clear xg hg hg2 xr
  obtain ⟨_, _⟩ : w2.cell? ⟨k1, 0, none⟩ = some (.int .i64 (e : Int)) ∧ w2.cell? ⟨k2, 0, none⟩ = some (.int .i64 (n : Int)) := ⟨cells1 (G2.out.keep X1.out), cells1 (G2.out.keep X2.out)⟩
  have hsz := G2.out.size
  obtain ⟨_, _⟩ := cells2 XR.out
  have _ := fz XR.out
  go_wp2_with fail
  have hm2 : n - e - e = m := by omega
  rw [hm2]
  have R : RdI w2 (some ⟨g, e, none⟩) (trim xs e) := fun k x hk => by
    have hkm : k < m := by
      have := (List.getElem?_eq_some_iff.1 hk).1
      rw [HLT.out] at this
      exact this
    rw [HT.out k hkm] at hk
    exact ⟨_, rfl, by rw [add_at3]; exact intR_cell XG.out hk⟩
  refine (HM.out _ _ _ (hid R)).mono ?_
  rintro x w3 ⟨rfl, hg3⟩
  have XR3 := hid (hg3.keep XR.out); have G3 := hid (G2.out.trans hg3)
  have hsz3 := G3.out.size
  clear hg3 R
  obtain ⟨_, _⟩ := cells2 XR3.out
  have _ := fz XR3.out
  have _ := ltb XR3.out
  go_wp2
  refine bodyPost_ret (v := fr (redP (sumZ (trim xs e)) m) (redQ (sumZ (trim xs e)) m)) (by simp [results, Try.results103, go_sem, *]) rfl ⟨rfl, ?_⟩
  exact (G3.out.setCell (by simp) _).setCell (by simp) _
/-! the program -/
theorem halfI (n : Nat) : ((n : Int) - 1).tdiv 2 = (((n - 1) / 2 : Nat) : Int) := by
  cases n with
  | zero => rfl
  | succ k =>
    have : ((k + 1 : Nat) : Int) - 1 = (k : Int) := by omega
    rw [this]
    simp
set_option maxRecDepth 20000 in
set_option maxHeartbeats 1000000 in
theorem iTM_range (A : Option Addr) (c n : Nat) (t : Int) (w : World) (hn : n ≤ 1048576) (h : t < 0 ∨ ((n : Int) - 1).tdiv 2 < t) :
    Calls Try.prog 40 #[.slice A n c, .int .i64 t] w fun e w' => e = .returned (.tuple #[fr 0 0, .int .i64 2]) ∧ Gr w w' := by
  obtain ⟨q, hq⟩ : ∃ q, ((n : Int) - 1).tdiv 2 = q := ⟨_, rfl⟩
  have b : 0 ≤ q ∧ q ≤ 1048576 := by rw [← hq, halfI]; omega
  obtain ⟨b1, b2⟩ := b
  rw [hq] at h
  by_cases h0 : t < 0
  · clear h
    go_enter Try.func40, Try.ntmps40
    go_wp2
    refine bodyPost_ret (v := .tuple #[fr 0 0, .int .i64 2]) (by simp [results, Try.results40, go_sem, *]) rfl ⟨rfl, ?_⟩
    exact ((((Gr.refl _)).al _).al _).al _
  · have h1 : q < t := by omega
    clear h
    go_enter Try.func40, Try.ntmps40
    go_wp2
    refine bodyPost_ret (v := .tuple #[fr 0 0, .int .i64 2]) (by simp [results, Try.results40, go_sem, *]) rfl ⟨rfl, ?_⟩
    exact ((((Gr.refl _)).al _).al _).al _
set_option maxRecDepth 20000 in
set_option maxHeartbeats 1000000 in
theorem iTM_to (A : Option Addr) (c n : Nat) (t q P Q C : Int) (w : World) (hq : ((n : Int) - 1).tdiv 2 = q) (b1 : 0 ≤ q) (b2 : q ≤ 1048576) (hn : n ≤ 1048576) (h0 : 0 ≤ t) (h1 : t ≤ q)
    (hO : ∀ (w' : World) (k1 k2 : Nat) (T1 T2 : TypeId), Gr w w' → Hid (w'.heap[k1]? = some (.cells #[.int .i64 t] T1)) → Hid (w'.heap[k2]? = some (.cells #[.int .i64 (n : Int)] T2)) →
      Calls Try.prog 94 #[.slice A n c, .func (.func 103) #[] #[.pointer (some ⟨k1, 0, none⟩), .pointer (some ⟨k2, 0, none⟩)]] w' fun e w'' => e = .returned (.tuple #[fr P Q, .int .i64 C]) ∧ Gr w' w'') :
    Calls Try.prog 40 #[.slice A n c, .int .i64 t] w fun e w' => e = .returned (.tuple #[fr P Q, .int .i64 C]) ∧ Gr w w' := by
  have HO := hid hO; clear hO
  go_enter Try.func40, Try.ntmps40
  go_wp2_with fail
  refine (HO.out _ w.heap.size (w.heap.size + 1 + 1) 2 2 ((((Gr.refl w).al _).al _).al _) (hid ((((Gr.refl _).al _).al _).keep (alloc1 (Gr.refl (w.alloc (.cells #[.int .i64 t] 2)))).1)) (hid (by simpa using (alloc1 (w := (w.alloc (.cells #[.int .i64 t] 2)).alloc (.cells #[.int .i64 0, .int .i64 0] 30)) (A := .cells #[.int .i64 (n : Int)] 2) (Gr.refl _)).1))).mono ?_
  rintro x w1 ⟨rfl, hg⟩
  obtain ⟨_, _, g3⟩ := alloc1 hg
  obtain ⟨xr, _, g2⟩ := alloc1 g3
  obtain ⟨_, _, g1⟩ := alloc1 g2
  simp only [World.size_alloc] at xr
  have G1 := hid g1
  have hsz := g1.size
  obtain ⟨_, _⟩ := cells2 xr
  have _ := fz xr
  have _ := ltb xr
  clear hg g3 g2 g1 xr HO
  go_wp2
  refine bodyPost_ret (v := .tuple #[fr P Q, .int .i64 C]) (by simp [results, Try.results40, go_sem, *]) rfl ⟨rfl, ?_⟩
  exact (G1.out.setCell (by simp <;> omega) _).setCell (by simp <;> omega) _

/-! the reference -/
theorem in_is (n lo hi : Int) (r : Bool) (w : World) (h : inB n lo hi = r) : Calls Try.prog 98 #[.int .i64 n, .int .i64 lo, .int .i64 hi] w fun e w' => e = .returned (.bool r) ∧ Gr w w' :=
  (in_any n lo hi w).mono fun e w' ⟨he, hw⟩ => by
    subst hw
    exact ⟨by rw [he, h], Gr.refl _⟩
set_option maxRecDepth 20000 in
set_option maxHeartbeats 1000000 in
theorem sTM_no (A : Option Addr) (c : Nat) (xs : List Int) (t : Int) (w : World) (X : Hid (RdI w A xs)) (hn : xs.length ≤ 1048576) (h : rdB xs = false) :
    Calls Try.prog 39 #[.slice A xs.length c, .int .i64 t] w fun e w' => e = .returned (.tuple #[fr 0 0, .int .i64 2]) ∧ Gr w w' := by
  have H := hid h; clear h
  go_enter Try.func39, Try.ntmps39
  go_wp2_with fail
  refine (sReadings_no A c xs _ (hid (X.out.keep ((Gr.refl _).al _))) hn H.out).mono ?_
  rintro e w1 ⟨rfl, hg1⟩
  obtain ⟨x1_0, hz1, g1⟩ := alloc1 hg1
  obtain ⟨_, _⟩ := cells2 x1_0
  have _ := fz x1_0
  have _ := ltb x1_0
  have X1_0 := hid x1_0; clear x1_0
  have G1 := hid (g1)
  clear hg1 g1
  go_wp2
  refine bodyPost_ret (v := .tuple #[fr 0 0, .int .i64 2]) (by simp [results, Try.results39, go_sem, *]) rfl ⟨rfl, ?_⟩
  exact ((G1.out).setCell (by simp <;> omega) _).setCell (by simp <;> omega) _
set_option maxRecDepth 20000 in
set_option maxHeartbeats 1000000 in
theorem sTM_range (A : Option Addr) (c : Nat) (xs : List Int) (t : Int) (w : World) (X : Hid (RdI w A xs)) (h : rdB xs = true) (h2 : inB t 0 (((xs.length : Int) - 1).tdiv 2) = false) :
    Calls Try.prog 39 #[.slice A xs.length c, .int .i64 t] w fun e w' => e = .returned (.tuple #[fr 0 0, .int .i64 2]) ∧ Gr w w' := by
  obtain ⟨_, _, _⟩ := rd_parts h
  obtain ⟨q, hq⟩ : ∃ q, ((xs.length : Int) - 1).tdiv 2 = q := ⟨_, rfl⟩
  have b : 0 ≤ q ∧ q ≤ 1048576 := by rw [← hq, halfI]; omega
  obtain ⟨b1, b2⟩ := b
  rw [hq] at h2
  have H := hid h; have H2 := hid h2; clear h h2
  go_enter Try.func39, Try.ntmps39
  go_wp2_with fail
  refine (sReadings_yes A c xs _ (hid (X.out.keep ((Gr.refl _).al _))) H.out).mono ?_
  rintro e w1 ⟨rfl, hg1⟩
  obtain ⟨x1_0, hz1, g1⟩ := alloc1 hg1
  obtain ⟨_, _⟩ := cells2 x1_0
  have _ := fz x1_0
  have _ := ltb x1_0
  have X1_0 := hid x1_0; clear x1_0
  have G1 := hid (g1)
  clear hg1 g1
  go_wp2_with fail
  refine (in_is _ _ _ _ _ H2.out).mono ?_
  rintro e w2 ⟨rfl, hg2⟩
  have x2_1 := hg2.keep X1_0.out
  obtain ⟨_, _⟩ := cells2 x2_1
  have _ := fz x2_1
  have _ := ltb x2_1
  have X2_1 := hid x2_1; clear x2_1
  have G2 := hid (G1.out.trans hg2)
  clear hg2
  go_wp2
  refine bodyPost_ret (v := .tuple #[fr 0 0, .int .i64 2]) (by simp [results, Try.results39, go_sem, *]) rfl ⟨rfl, ?_⟩
  exact ((G2.out).setCell (by simp <;> omega) _).setCell (by simp <;> omega) _
set_option maxRecDepth 20000 in
set_option maxHeartbeats 2000000 in
theorem sTM_yes (A : Option Addr) (c e m : Nat) (xs : List Int) (w : World) (X : Hid (RdI w A xs)) (h : rdB xs = true) (he : xs.length = m + 2 * e) (hm : 1 ≤ m) :
    Calls Try.prog 39 #[.slice A xs.length c, .int .i64 (e : Int)] w fun x w' => x = .returned (.tuple #[fr (redP (sumZ (trim xs e)) m) (redQ (sumZ (trim xs e)) m), .int .i64 0]) ∧ Gr w w' := by
  obtain ⟨h1, h64, ha⟩ := rd_parts h
  have hlt : (trim xs e).length = m := by rw [trim_len (by omega)]; omega
  obtain ⟨q, hq⟩ : ∃ q, ((xs.length : Int) - 1).tdiv 2 = q := ⟨_, rfl⟩
  have b : (e : Int) ≤ q ∧ q ≤ 1048576 := by rw [← hq, halfI]; omega
  obtain ⟨b1, b2⟩ := b
  have h2 : inB (e : Int) 0 q = true := by unfold inB; simp; exact b1
  have hbd := trim_bd (e := e) ha
  have HR : Hid (∀ w, Calls Try.prog 92 #[.int .i64 (sumZ (trim xs e)), .int .i64 ((xs.length : Int) - 2 * (e : Int))] w fun x w' => x = .returned (.tuple #[fr (redP (sumZ (trim xs e)) m) (redQ (sumZ (trim xs e)) m), .int .i64 0]) ∧ Gr w w') := hid fun w => by
    have bd := sumZ_bd (trim xs e) hbd
    rw [hlt] at bd
    have hh := sred_any (sumZ (trim xs e)) (m : Int) w (by omega) (by omega) (by omega) (by omega) (by omega)
    have hk := ok_red (p := sumZ (trim xs e)) (q := (m : Int)) (by omega) (by omega) (by omega) (by omega)
    unfold rP rQ rC at hh
    rw [hk] at hh
    rw [show (xs.length : Int) - 2 * (e : Int) = (m : Int) by omega]
    simpa using hh
  have hpb : ∀ k, -128000000 ≤ sumZ ((trim xs e).take k) ∧ sumZ ((trim xs e).take k) ≤ 128000000 := fun k => by
    have b := sumZ_bd ((trim xs e).take k) fun x hx => hbd x (List.mem_of_mem_take hx)
    have l : ((trim xs e).take k).length ≤ 64 := by rw [List.length_take, hlt]; omega
    omega
  have H := hid h; have H2 := hid h2; have HPB := hid hpb; have HBD := hid hbd; have HLT := hid hlt
  have HT := hid fun (k : Nat) (h : k < m) => trim_get (xs := xs) (e := e) (k := k) (by omega)
  have HSO := hid fun (w : World) (X : Hid (RdI w A xs)) => sSorted A c xs w X h1 (by omega)
  have he1 : m + 2 * e ≤ xs.length := by omega
  have he2 : xs.length ≤ m + 2 * e := by omega
  clear h h2 ha hpb hbd hlt he
  go_enter Try.func39, Try.ntmps39
  go_wp2_with fail
  refine (sReadings_yes A c xs _ (hid (X.out.keep ((Gr.refl _).al _))) H.out).mono ?_
  rintro e w1 ⟨rfl, hg1⟩
  obtain ⟨x1_0, hz1, g1⟩ := alloc1 hg1
  obtain ⟨_, _⟩ := cells2 x1_0
  have _ := fz x1_0
  have _ := ltb x1_0
  have X1_0 := hid x1_0; clear x1_0
  have G1 := hid (g1)
  clear hg1 g1
  go_wp2_with fail
  refine (in_is _ _ _ _ _ H2.out).mono ?_
  rintro e w2 ⟨rfl, hg2⟩
  have x2_1 := hg2.keep X1_0.out
  obtain ⟨_, _⟩ := cells2 x2_1
  have _ := fz x2_1
  have _ := ltb x2_1
  have X2_1 := hid x2_1; clear x2_1
  have G2 := hid (G1.out.trans hg2)
  clear hg2
  have GG := hid G2.out; have XR := hid X2_1.out
  go_wp2_with fail
  refine (HSO.out _ (hid (X.out.keep GG.out))).mono ?_
  rintro x w3 ⟨A', c', rfl, own, hg⟩
  have RS := hid (RdI.of_own own); have G3 := hid (GG.out.trans hg); have XR3 := hid (hg.keep XR.out)
  clear own hg
  go_wp2_with fail
  go_loopw [9, 10] (fun s u wr => ∃ (k : Nat), u = .int .i64 ((e : Int) + (k : Int)) ∧ s = .int .i64 (sumZ ((trim xs e).take k)) ∧ k ≤ m ∧ Gr w3 wr) (fun _ u _ => xs.length - (intOf u).toNat)
  case atStart => exact ⟨0, by simp, by simp [sumZ], by omega, Gr.refl _⟩
  case round =>
    obtain ⟨k, rfl, rfl, hk, hgr⟩ := hrel
    have GR := hid hgr
    clear hgr
    by_cases hlt : k < m
    · obtain ⟨p, hp⟩ : ∃ p, (trim xs e)[k]? = some p := ⟨(trim xs e)[k]'(by rw [HLT.out]; exact hlt), List.getElem?_eq_getElem _⟩
      obtain ⟨_, _⟩ := HBD.out p (List.mem_of_getElem? hp)
      obtain ⟨_, _⟩ := HPB.out k
      have hst : sumZ ((trim xs e).take (k + 1)) = sumZ ((trim xs e).take k) + p := by rw [List.take_add_one, hp, Option.toList_some, sumZ_app]
      have hp2 := hp
      rw [HT.out k hlt] at hp2
      obtain ⟨ad, rfl, cp⟩ := (RS.out.keep GR.out) _ _ hp2
      have HS := hid hst
      obtain ⟨s, hs⟩ : ∃ s, sumZ ((trim xs e).take k) = s := ⟨_, rfl⟩
      rw [hs] at HS
      have s1 : -128000000 ≤ s := by omega
      have s2 : s ≤ 128000000 := by omega
      rw [hs]
      have hidx : ((e : Int) + (k : Int)).toNat = e + k := by omega
      have cp2 : wr.cell? (ad.add ((e : Int) + (k : Int)).toNat) = some (.int .i64 p) := by rw [hidx]; exact cp
      clear hp hp2 hst hs
      go_wp2_with fail
      exact ⟨⟨k + 1, by simp; omega, by rw [HS.out], by omega, GR.out⟩, by simp [intOf]; omega⟩
    · have hke : k = m := by omega
      subst hke
      have htk : (trim xs e).take k = trim xs e := List.take_of_length_le (by rw [HLT.out]; exact Nat.le_refl _)
      rw [htk]
      have Z1 := hid (GR.out.keep XR3.out)
      have G4 := hid (G3.out.trans GR.out)
      have hgs := G4.out.size
      clear htk
      obtain ⟨_, _⟩ := cells2 Z1.out
      have _ := fz Z1.out
      have _ := ltb Z1.out
      go_wp2_with fail
      refine (HR.out _).mono ?_
      rintro e w6 ⟨rfl, hg6⟩
      have x6_1 := hg6.keep Z1.out
      obtain ⟨_, _⟩ := cells2 x6_1
      have _ := fz x6_1
      have _ := ltb x6_1
      have X6_1 := hid x6_1; clear x6_1
      have G6 := hid (G4.out.trans hg6)
      clear hg6
      go_wp2
      refine bodyPost_ret (v := .tuple #[fr (redP (sumZ (trim xs e)) k) (redQ (sumZ (trim xs e)) k), .int .i64 0]) (by simp [results, Try.results39, go_sem, *]) rfl ⟨rfl, ?_⟩
      exact ((G6.out).setCell (by simp <;> omega) _).setCell (by simp <;> omega) _
/-! joined -/
theorem bothTrimmedMean (xs : List Int) (t : Int) (hn : xs.length ≤ 1048576) : ∃ P Q C : Int,
    (∀ (A : Option Addr) (c : Nat) (w : World), Hid (RdI w A xs) → Calls Try.prog 39 #[.slice A xs.length c, .int .i64 t] w fun e w' => e = .returned (.tuple #[fr P Q, .int .i64 C]) ∧ Gr w w') ∧
    (∀ (A : Option Addr) (c : Nat) (w : World), Hid (RdI w A xs) → Calls Try.prog 40 #[.slice A xs.length c, .int .i64 t] w fun e w' => e = .returned (.tuple #[fr P Q, .int .i64 C]) ∧ Gr w w') := by
  have hq := halfI xs.length
  by_cases hin : 0 ≤ t ∧ t ≤ ((xs.length : Int) - 1).tdiv 2
  · obtain ⟨h0, h1⟩ := hin
    have hO := fun (A : Option Addr) (c : Nat) (P Q C : Int) (w : World) => iTM_to A c xs.length t (((xs.length : Int) - 1).tdiv 2) P Q C w rfl (by rw [hq]; omega) (by rw [hq]; omega) hn h0 h1
    cases h : rdB xs with
    | false =>
      exact ⟨0, 0, 2, fun A c w X => sTM_no A c xs t w X hn h, fun A c w X => hO A c 0 0 2 w fun w' k1 k2 T1 T2 hg X1 X2 => ofR_F_no _ _ A c xs w' (hid (X.out.keep hg)) h⟩
    | true =>
      obtain ⟨n1, n64, ha⟩ := rd_parts h
      obtain ⟨e, rfl⟩ : ∃ e : Nat, t = (e : Int) := ⟨t.toNat, by omega⟩
      rw [hq] at h1
      obtain ⟨m, hm⟩ : ∃ m, xs.length = m + 2 * e := ⟨xs.length - 2 * e, by omega⟩
      have hm1 : 1 ≤ m := by omega
      refine ⟨_, _, 0, fun A c w X => sTM_yes A c e m xs w X h hm hm1, fun A c w X => hO A c _ _ 0 w fun w' k1 k2 T1 T2 hg X1 X2 => ofR_F_yes _ _ A c xs _ _ w' (hid (X.out.keep hg)) h (fun _ => by kernel_rfl) fun w2 hg2 => ?_⟩
      exact cTrim A c xs.length e m xs w2 k1 k2 T1 T2 (hid (hg2.keep X1.out)) (hid (hg2.keep X2.out)) (hid (X.out.keep (hg.trans hg2))) rfl hm hm1 n64 ha
  · have hr : t < 0 ∨ ((xs.length : Int) - 1).tdiv 2 < t := by omega
    refine ⟨0, 0, 2, fun A c w X => ?_, fun A c w X => iTM_range A c xs.length t w hn hr⟩
    cases h : rdB xs with
    | false => exact sTM_no A c xs t w X hn h
    | true =>
      refine sTM_range A c xs t w X h ?_
      unfold inB
      rcases hr with hr | hr
      · rw [decide_eq_false (by omega)]; rfl
      · rw [decide_eq_false (p := t ≤ _) (by omega), Bool.and_false]
end Go.Proofs.Ytfcoigdmnmgohaa
