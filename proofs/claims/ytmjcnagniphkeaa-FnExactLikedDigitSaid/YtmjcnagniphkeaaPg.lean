/- WALKS: the greatest of integers, the first of those; LikedDigit, of the program and of the reference. -/
import Derived.Test.YtmjcnagniphkeaaPf
import Derived.Test.YtmjcnagniphkeaaIv
namespace Go.Proofs.Ytmjcnagniphkeaa
open Go.RowKit Go.Sort

/-- The first greatest one. -/
def FM (ds : List Int) (j : Nat) : Prop := ∃ d, ds[j]? = some d ∧ (∀ (i : Nat) (e : Int), ds[i]? = some e → e ≤ d) ∧ (∀ (i : Nat) (e : Int), i < j → ds[i]? = some e → e < d)
theorem FM.uniq {ds : List Int} {j k : Nat} (h1 : FM ds j) (h2 : FM ds k) : j = k := by
  obtain ⟨d, a1, a2, a3⟩ := h1
  obtain ⟨e, b1, b2, b3⟩ := h2
  rcases Nat.lt_trichotomy j k with h | h | h
  · have := b3 j d h a1; have := a2 k e b1; omega
  · exact h
  · have := a3 k e h b1; have := b2 j d a1; omega
/-- The greatest one of the first k. -/
def MX (ds : List Int) (k : Nat) (m : Int) : Prop := (∃ i : Nat, i < k ∧ ds[i]? = some m) ∧ ∀ (i : Nat) (e : Int), i < k → ds[i]? = some e → e ≤ m
theorem MX.step {ds : List Int} {k : Nat} {m x : Int} (h : MX ds k m) (hx : ds[k]? = some x) : MX ds (k + 1) (if m < x then x else m) := by
  obtain ⟨⟨i, h1, h2⟩, h3⟩ := h
  by_cases hl : m < x
  · rw [if_pos hl]
    refine ⟨⟨k, by omega, hx⟩, fun i e hi he => ?_⟩
    by_cases hk : i = k
    · subst hk; rw [hx] at he; cases he; omega
    · have := h3 i e (by omega) he; omega
  · rw [if_neg hl]
    refine ⟨⟨i, by omega, h2⟩, fun j e hj he => ?_⟩
    by_cases hk : j = k
    · subst hk; rw [hx] at he; cases he; omega
    · exact h3 j e (by omega) he
set_option maxRecDepth 20000 in
set_option maxHeartbeats 1000000 in
theorem iMaxL (A : Option Addr) (c n : Nat) (xs : List Int) (w : World) (X : Hid (RdI w A xs)) (hn : xs.length = n) (h1 : 1 ≤ n) (h2 : n ≤ 1048576) :
    Calls Try.prog 175 #[.slice A n c] w fun e w' => (∃ m, e = .returned (.int .i64 m) ∧ MX xs n m) ∧ Gr w w' := by
  have HN := hid hn; clear hn
  obtain ⟨x0, hx0⟩ : ∃ x, xs[0]? = some x := ⟨xs[0]'(by have := HN.out; omega), List.getElem?_eq_getElem _⟩
  obtain ⟨ad, rfl, c0⟩ := X.out 0 x0 hx0
  have hz : ad.add 0 = ad := by unfold Addr.add; simp
  rw [hz] at c0
  have C0 := hid c0
  have M0 : MX xs 1 x0 := ⟨⟨0, by omega, hx0⟩, fun i e hi he => by have : i = 0 := by omega
                                                                   subst this; rw [hx0] at he; cases he; omega⟩
  have HM0 := hid M0
  clear hz M0 hx0
  go_enter Try.func175, Try.ntmps175
  go_wp2_with fail
  go_loopw [3, 4] (fun v u wr => ∃ (k : Nat) (m : Int), u = .int .i64 (k : Int) ∧ v = .int .i64 m ∧ 1 ≤ k ∧ k ≤ n ∧ MX xs k m ∧ wr = w) (fun _ u _ => n - (intOf u).toNat)
  case atStart => exact ⟨1, x0, rfl, rfl, by omega, by omega, HM0.out, by simp⟩
  case round =>
    obtain ⟨k, m, rfl, rfl, hk1, hk, hm, rfl⟩ := hrel
    have HM := hid hm; clear hm
    by_cases hlt : k < n
    · obtain ⟨p, hp⟩ : ∃ p, xs[k]? = some p := ⟨xs[k]'(by have := HN.out; omega), List.getElem?_eq_getElem _⟩
      obtain ⟨ad', e, c1⟩ := X.out k p hp
      cases e
      have HS := hid (HM.out.step hp)
      clear hp
      by_cases hlm : m < p
      · go_wp2_with fail
        exact ⟨⟨k + 1, p, by simp, rfl, by omega, by omega, by have h := HS.out; rwa [if_pos hlm] at h, by simp⟩, by simp [intOf]; omega⟩
      · go_wp2_with fail
        exact ⟨⟨k + 1, m, by simp, rfl, by omega, by omega, by have h := HS.out; rwa [if_neg hlm] at h, by simp⟩, by simp [intOf]; omega⟩
    · have hke : k = n := by omega
      subst hke
      go_wp2_with fail
      go_ret
      exact ⟨⟨m, rfl, HM.out⟩, Gr.refl _⟩
def FI (xs : List Int) (v : Int) (j : Nat) : Prop := xs[j]? = some v ∧ ∀ (i : Nat) (e : Int), i < j → xs[i]? = some e → e ≠ v
set_option maxRecDepth 20000 in
set_option maxHeartbeats 1000000 in
theorem iIndexL (A : Option Addr) (c n : Nat) (xs : List Int) (v : Int) (w : World) (X : Hid (RdI w A xs)) (hn : xs.length = n) (h2 : n ≤ 1048576) (hv : ∃ i : Nat, i < n ∧ xs[i]? = some v) :
    Calls Try.prog 174 #[.slice A n c, .int .i64 v] w fun e w' => (∃ j : Nat, e = .returned (.int .i64 (j : Int)) ∧ FI xs v j) ∧ Gr w w' := by
  have HN := hid hn; have HV := hid hv; clear hn hv
  go_enter Try.func174, Try.ntmps174
  go_wp2_with fail
  go_loopw [8] (fun u wr => ∃ (k : Nat), u = .int .i64 (k : Int) ∧ k ≤ n ∧ (∀ (i : Nat) (e : Int), i < k → xs[i]? = some e → e ≠ v) ∧ wr = w) (fun u _ => n - (intOf u).toNat)
  case atStart => exact ⟨0, rfl, by omega, fun i e h => by omega, by simp⟩
  case round =>
    obtain ⟨k, rfl, hk, hne, rfl⟩ := hrel
    have HNE := hid hne; clear hne
    by_cases hlt : k < n
    · obtain ⟨p, hp⟩ : ∃ p, xs[k]? = some p := ⟨xs[k]'(by have := HN.out; omega), List.getElem?_eq_getElem _⟩
      obtain ⟨ad', rfl, c1⟩ := X.out k p hp
      have HP := hid hp
      clear hp
      by_cases he : v = p
      · subst he
        go_wp2_with fail
        go_ret
        exact ⟨⟨k, rfl, HP.out, HNE.out⟩, Gr.refl _⟩
      · have hb : ((v : Int) == p) = false := by simpa using he
        go_wp2_with fail
        refine ⟨⟨k + 1, by simp, by omega, fun i e hi hie => ?_, by simp⟩, by simp [intOf]; omega⟩
        by_cases hik : i = k
        · subst hik
          rw [HP.out] at hie
          cases hie
          exact fun h => he h.symm
        · exact HNE.out i e (by omega) hie
    · exfalso
      obtain ⟨i, hi, hie⟩ := HV.out
      exact HNE.out i v (by omega) hie rfl
set_option maxRecDepth 20000 in
set_option maxHeartbeats 1000000 in
theorem iFirstG (A : Option Addr) (c n : Nat) (xs : List Int) (w : World) (X : Hid (RdI w A xs)) (hn : xs.length = n) (h1 : 1 ≤ n) (h2 : n ≤ 1048576) :
    Calls Try.prog 111 #[.slice A n c] w fun e w' => (∃ j : Nat, e = .returned (.int .i64 (j : Int)) ∧ FM xs j) ∧ Gr w w' := by
  have HN := hid hn; clear hn
  go_enter Try.func111, Try.ntmps111
  go_wp2_with fail
  refine (iMaxL A c n xs w X HN.out h1 h2).mono ?_
  rintro e w1 ⟨⟨m, rfl, hm⟩, hg1⟩
  have HM := hid hm; have G1 := hid hg1
  clear hm hg1
  go_wp2_with fail
  refine (iIndexL A c n xs m w1 (hid (X.out.keep G1.out)) HN.out h2 HM.out.1).mono ?_
  rintro e w2 ⟨⟨j, rfl, hj⟩, hg2⟩
  have HJ := hid hj; have G2 := hid (G1.out.trans hg2)
  clear hj hg2
  go_wp2_with fail
  go_ret
  refine ⟨⟨j, rfl, m, HJ.out.1, fun i e he => HM.out.2 i e (by have := (List.getElem?_eq_some_iff.1 he).1; have := HN.out; omega) he, fun i e hi he => ?_⟩, G2.out⟩
  have b1 := HM.out.2 i e (by have := (List.getElem?_eq_some_iff.1 he).1; have := HN.out; omega) he
  have b2 := HJ.out.2 i e hi he
  omega
set_option maxRecDepth 20000 in
set_option maxHeartbeats 1000000 in
theorem iLiked_no (A : Option Addr) (n c : Nat) (C : Int) (w : World) (h0 : C ≠ 0) (ho : ∀ w', Gr w w' → Calls Try.prog 51 #[.slice A n c] w' fun e w'' => e = .returned (.tuple #[dv 0 0 0 0 0 0 0 0 0 0, .int .i64 C]) ∧ Gr w' w'') :
    Calls Try.prog 55 #[.slice A n c] w fun e w' => e = .returned (.tuple #[.int .i64 0, .int .i64 0, .int .i64 C]) ∧ Gr w w' := by
  have HO := hid ho; clear ho
  have c1 : ((C : Int) == 0) = false := by simpa using h0
  have c2 : ((C : Int) != 0) = true := by simpa using h0
  go_enter Try.func55, Try.ntmps55
  go_wp2_with fail
  refine (HO.out _ (Gr.refl _)).mono ?_
  rintro e w1 ⟨rfl, hg1⟩
  have G1 := hid (hg1)
  clear hg1
  go_wp2
  refine bodyPost_ret (v := .tuple #[.int .i64 0, .int .i64 0, .int .i64 C]) (by simp [results, Try.results55, go_sem, *]) rfl ⟨rfl, ?_⟩
  exact G1.out.al _
set_option maxRecDepth 20000 in
set_option maxHeartbeats 1000000 in
theorem iLiked_yes (A : Option Addr) (n c : Nat) (d0 d1 d2 d3 d4 d5 d6 d7 d8 d9 : Int) (j : Nat) (d : Int) (w : World) (hn : n ≤ 64) (hj : FM [d0, d1, d2, d3, d4, d5, d6, d7, d8, d9] j) (hd : ([d0, d1, d2, d3, d4, d5, d6, d7, d8, d9] : List Int)[j]? = some d) (hd0 : 0 ≤ d) (hd1 : d ≤ 64)
    (ho : ∀ w', Gr w w' → Calls Try.prog 51 #[.slice A n c] w' fun e w'' => e = .returned (.tuple #[dv d0 d1 d2 d3 d4 d5 d6 d7 d8 d9, .int .i64 0]) ∧ Gr w' w'') :
    Calls Try.prog 55 #[.slice A n c] w fun e w' => e = .returned (.tuple #[.int .i64 (j : Int), .int .i64 (d - (n : Int) / 10), .int .i64 0]) ∧ Gr w w' := by
  have HO := hid ho; have HJ := hid hj; have HD := hid hd; clear ho hj hd
  have hjl : j < 10 := by have := (List.getElem?_eq_some_iff.1 HD.out).1; simpa using this
  go_enter Try.func55, Try.ntmps55
  go_wp2_with fail
  refine (HO.out _ (Gr.refl _)).mono ?_
  rintro e w1 ⟨rfl, hg1⟩
  have G1 := hid (hg1)
  clear hg1
  have y0 : (w1.alloc (.cells #[.int .i64 d0, .int .i64 d1, .int .i64 d2, .int .i64 d3, .int .i64 d4, .int .i64 d5, .int .i64 d6, .int .i64 d7, .int .i64 d8, .int .i64 d9] 81)).heap[w1.heap.size]? = some (.cells (intA [d0, d1, d2, d3, d4, d5, d6, d7, d8, d9]) 81) := (alloc1 (Gr.refl _)).1
  have Y0 := hid y0; clear y0
  have HF := hid (iFirstG (some ⟨w1.heap.size, 0, none⟩) 10 10 [d0, d1, d2, d3, d4, d5, d6, d7, d8, d9] _ (hid (RdI.of_block Y0.out)) rfl (by decide) (by decide))
  go_wp2_with fail
  refine HF.out.mono ?_
  rintro e w2 ⟨⟨j', rfl, hj'⟩, hg2⟩
  have e : j' = j := hj'.uniq HJ.out
  subst e
  have Y2 := hid (hg2.keep Y0.out); have G2 := hid ((G1.out.al _).trans hg2)
  have c1 := hid (int_cell Y2.out HD.out)
  have hw : IntKind.i64.wrap (d - (n : Int) / 10) = d - (n : Int) / 10 := IntWalk.i64_in _ (by omega)
  have HW := hid hw
  clear hj' hg2 hw
  go_wp2_with fail
  refine wp_reg0 10 (by kernel_rfl) (by kernel_rfl) ?_
  apply Exists.intro
  refine ⟨fun wb hb => ?_, ?_⟩
  · have _ := hb.atA c1.out
    simp only [headOps, List.contains, List.elem, reduceIte, Bool.false_eq_true]
    repeat (first | go_big_quiet_step (first | (fail)) | quiet_step (fail))
    exact wpQuiet_nil rfl
  intro w3 hg3
  have G3 := hid (G2.out.trans hg3)
  clear hg3
  go_wp2_with fail
  refine bodyPost_ret (v := .tuple #[.int .i64 (j' : Int), .int .i64 (d - (n : Int) / 10), .int .i64 0]) (by simp [results, Try.results55, go_sem, *]) rfl ⟨rfl, ?_⟩
  exact G3.out
def FMk (ds : List Int) (k j : Nat) : Prop := ∃ d, ds[j]? = some d ∧ (∀ (i : Nat) (e : Int), i < k → ds[i]? = some e → e ≤ d) ∧ (∀ (i : Nat) (e : Int), i < j → ds[i]? = some e → e < d)
theorem FMk.up {ds : List Int} {k j : Nat} {d x : Int} (h : FMk ds k j) (hd : ds[j]? = some d) (hx : ds[k]? = some x) (hl : d < x) : FMk ds (k + 1) k := by
  obtain ⟨d', h1, h2, h3⟩ := h
  rw [hd] at h1
  cases h1
  refine ⟨x, hx, fun i e hi he => ?_, fun i e hi he => ?_⟩
  · by_cases hk : i = k
    · subst hk; rw [hx] at he; cases he; omega
    · have := h2 i e (by omega) he; omega
  · have := h2 i e hi he; omega
theorem FMk.stay {ds : List Int} {k j : Nat} {d x : Int} (h : FMk ds k j) (hd : ds[j]? = some d) (hx : ds[k]? = some x) (hl : ¬ d < x) : FMk ds (k + 1) j := by
  obtain ⟨d', h1, h2, h3⟩ := h
  rw [hd] at h1
  cases h1
  refine ⟨d, hd, fun i e hi he => ?_, h3⟩
  by_cases hk : i = k
  · subst hk; rw [hx] at he; cases he; omega
  · exact h2 i e (by omega) he
theorem FMk.one {ds : List Int} {d : Int} (hd : ds[0]? = some d) : FMk ds 1 0 :=
  ⟨d, hd, fun i e hi he => by
    have : i = 0 := by omega
    subst this; rw [hd] at he; cases he; omega, fun i e hi he => by omega⟩
theorem FMk.ex {ds : List Int} : ∀ k, 1 ≤ k → k ≤ ds.length → ∃ j, FMk ds k j
  | 0, h, _ => by omega
  | 1, _, h => ⟨0, FMk.one (List.getElem?_eq_getElem (by omega))⟩
  | k + 2, _, h => by
    obtain ⟨j, hj⟩ := FMk.ex (ds := ds) (k + 1) (by omega) (by omega)
    have hj2 := hj
    obtain ⟨d, h1, h2, h3⟩ := hj
    have hx : ds[k + 1]? = some ds[k + 1] := List.getElem?_eq_getElem (by omega)
    by_cases hl : d < ds[k + 1]
    · exact ⟨_, hj2.up h1 hx hl⟩
    · exact ⟨_, hj2.stay h1 hx hl⟩
theorem FMk.fm {ds : List Int} {j : Nat} (h : FMk ds ds.length j) : FM ds j := by
  obtain ⟨d, h1, h2, h3⟩ := h
  exact ⟨d, h1, fun i e he => h2 i e (List.getElem?_eq_some_iff.1 he).1 he, h3⟩
set_option maxRecDepth 20000 in
set_option maxHeartbeats 1000000 in
theorem sLiked_no (A : Option Addr) (c : Nat) (xs : List Int) (w : World) (X : Hid (RdI w A xs)) (hn : xs.length ≤ 1048576) (h : rdB xs = false) :
    Calls Try.prog 54 #[.slice A xs.length c] w fun e w' => e = .returned (.tuple #[.int .i64 0, .int .i64 0, .int .i64 2]) ∧ Gr w w' := by
  have H := hid h; clear h
  go_enter Try.func54, Try.ntmps54
  go_wp2_with fail
  refine (sReadings_no A c xs _ X hn H.out).mono ?_
  rintro e w1 ⟨rfl, hg1⟩
  have G1 := hid (hg1)
  clear hg1
  go_wp2
  refine bodyPost_ret (v := .tuple #[.int .i64 0, .int .i64 0, .int .i64 2]) (by simp [results, Try.results54, go_sem, *]) rfl ⟨rfl, ?_⟩
  exact G1.out
set_option maxRecDepth 20000 in
set_option maxHeartbeats 2000000 in
theorem sLiked_yes (A : Option Addr) (c : Nat) (xs : List Int) (d0 d1 d2 d3 d4 d5 d6 d7 d8 d9 : Int) (j : Nat) (d : Int) (w : World) (X : Hid (RdI w A xs)) (h : rdB xs = true) (hds : dgt xs = [d0, d1, d2, d3, d4, d5, d6, d7, d8, d9]) (hj : FM [d0, d1, d2, d3, d4, d5, d6, d7, d8, d9] j) (hd : ([d0, d1, d2, d3, d4, d5, d6, d7, d8, d9] : List Int)[j]? = some d) (hd0 : 0 ≤ d) (hd1 : d ≤ 64) :
    Calls Try.prog 54 #[.slice A xs.length c] w fun e w' => e = .returned (.tuple #[.int .i64 (j : Int), .int .i64 (d - (xs.length : Int) / 10), .int .i64 0]) ∧ Gr w w' := by
  obtain ⟨h1, h2, h3⟩ := rd_parts h
  have H := hid h; have HEQ := hid hds; have HJ := hid hj; have HD := hid hd; clear h h3 hds hj hd
  go_enter Try.func54, Try.ntmps54
  go_wp2_with fail
  refine (sReadings_yes A c xs _ X H.out).mono ?_
  rintro e w1 ⟨rfl, hg1⟩
  have G1 := hid (hg1)
  clear hg1
  go_wp2_with fail
  refine (sDig A c xs d0 d1 d2 d3 d4 d5 d6 d7 d8 d9 _ (hid (X.out.keep G1.out)) H.out HEQ.out).mono ?_
  rintro e w2 ⟨rfl, hg2⟩
  have G2 := hid (G1.out.trans hg2)
  clear hg2
  have y0 : (w2.alloc (.cells #[.int .i64 d0, .int .i64 d1, .int .i64 d2, .int .i64 d3, .int .i64 d4, .int .i64 d5, .int .i64 d6, .int .i64 d7, .int .i64 d8, .int .i64 d9] 81)).heap[w2.heap.size]? = some (.cells (intA [d0, d1, d2, d3, d4, d5, d6, d7, d8, d9]) 81) := (alloc1 (Gr.refl _)).1
  have Y0 := hid y0; clear y0
  have GA := hid (G2.out.al (.cells #[.int .i64 d0, .int .i64 d1, .int .i64 d2, .int .i64 d3, .int .i64 d4, .int .i64 d5, .int .i64 d6, .int .i64 d7, .int .i64 d8, .int .i64 d9] 81))
  go_wp2_with fail
  go_loopw [7, 8] (fun t u wr => ∃ (k b : Nat), u = .int .i64 (k : Int) ∧ t = .int .i64 (b : Int) ∧ 1 ≤ k ∧ k ≤ 10 ∧ b < k ∧ FMk [d0, d1, d2, d3, d4, d5, d6, d7, d8, d9] k b ∧ Gr w wr ∧ wr.heap[w2.heap.size]? = some (.cells (intA [d0, d1, d2, d3, d4, d5, d6, d7, d8, d9]) 81)) (fun _ u _ => 10 - (intOf u).toNat)
  case atStart => exact ⟨1, 0, rfl, rfl, by omega, by omega, by omega, FMk.one rfl, GA.out, Y0.out⟩
  case round =>
    obtain ⟨k, b, rfl, rfl, hk1, hk, hbk, hf, hg, hy⟩ := hrel
    have HF := hid hf; have GR := hid hg; have Y := hid hy
    clear hf hg hy
    have hb10 : b < 10 := by omega
    obtain ⟨v, hv⟩ : ∃ v, ([d0, d1, d2, d3, d4, d5, d6, d7, d8, d9] : List Int)[b]? = some v := ⟨_, List.getElem?_eq_getElem (by simpa using hb10)⟩
    have HV := hid hv
    have C1 := hid (int_cell Y.out hv)
    clear hv
    by_cases hlt : k < 10
    · obtain ⟨x, hx⟩ : ∃ x, ([d0, d1, d2, d3, d4, d5, d6, d7, d8, d9] : List Int)[k]? = some x := ⟨_, List.getElem?_eq_getElem (by simpa using hlt)⟩
      have HX := hid hx
      have C2 := hid (int_cell Y.out hx)
      clear hx
      by_cases hl : v < x
      · have HN := hid (HF.out.up HV.out HX.out hl)
        go_wp2_with fail
        refine wp_reg0 6 (by kernel_rfl) (by kernel_rfl) ?_
        apply Exists.intro
        refine ⟨fun wb hb => ?_, ?_⟩
        · have _ := hb.atA C1.out
          have _ := hb.atA C2.out
          simp only [headOps, List.contains, List.elem, reduceIte, Bool.false_eq_true]
          repeat (first | go_big_quiet_step (first | (fail)) | quiet_step (fail))
          exact wpQuiet_nil rfl
        intro w3 hg3
        have G3 := hid (GR.out.trans hg3); have Y3 := hid (hg3.keep Y.out)
        clear hg3
        go_wp2_with fail
        exact ⟨⟨k + 1, k, by simp, rfl, by omega, by omega, by omega, HN.out, G3.out, Y3.out⟩, by simp [intOf]; omega⟩
      · have HN := hid (HF.out.stay HV.out HX.out hl)
        go_wp2_with fail
        refine wp_reg0 6 (by kernel_rfl) (by kernel_rfl) ?_
        apply Exists.intro
        refine ⟨fun wb hb => ?_, ?_⟩
        · have _ := hb.atA C1.out
          have _ := hb.atA C2.out
          simp only [headOps, List.contains, List.elem, reduceIte, Bool.false_eq_true]
          repeat (first | go_big_quiet_step (first | (fail)) | quiet_step (fail))
          exact wpQuiet_nil rfl
        intro w3 hg3
        have G3 := hid (GR.out.trans hg3); have Y3 := hid (hg3.keep Y.out)
        clear hg3
        go_wp2_with fail
        exact ⟨⟨k + 1, b, by simp, rfl, by omega, by omega, by omega, HN.out, G3.out, Y3.out⟩, by simp [intOf]; omega⟩
    · have hke : k = 10 := by omega
      subst hke
      have e : b = j := (FMk.fm HF.out).uniq HJ.out
      subst e
      have hvd : v = d := by have h1 := HV.out; rw [HD.out] at h1; cases h1; rfl
      subst hvd
      have hw : IntKind.i64.wrap (v - (xs.length : Int) / 10) = v - (xs.length : Int) / 10 := IntWalk.i64_in _ (by omega)
      have HW := hid hw
      clear hw HF
      go_wp2_with fail
      refine wp_reg0 10 (by kernel_rfl) (by kernel_rfl) ?_
      apply Exists.intro
      refine ⟨fun wb hb => ?_, ?_⟩
      · have _ := hb.atA C1.out
        simp only [headOps, List.contains, List.elem, reduceIte, Bool.false_eq_true]
        repeat (first | go_big_quiet_step (first | (fail)) | quiet_step (fail))
        exact wpQuiet_nil rfl
      intro w3 hg3
      have G3 := hid (GR.out.trans hg3)
      clear hg3
      go_wp2_with fail
      refine bodyPost_ret (v := .tuple #[.int .i64 (b : Int), .int .i64 (v - (xs.length : Int) / 10), .int .i64 0]) (by simp [results, Try.results54, go_sem, *]) rfl ⟨rfl, ?_⟩
      exact G3.out
theorem bothLikedDigit (xs : List Int) (hn : xs.length ≤ 1048576) : ∃ R0 R1 C : Int,
    (∀ (A : Option Addr) (c : Nat) (w : World), Hid (RdI w A xs) → Calls Try.prog 54 #[.slice A xs.length c] w fun e w' => e = .returned (.tuple #[.int .i64 R0, .int .i64 R1, .int .i64 C]) ∧ Gr w w') ∧
    (∀ (A : Option Addr) (c : Nat) (w : World), Hid (RdI w A xs) → Calls Try.prog 55 #[.slice A xs.length c] w fun e w' => e = .returned (.tuple #[.int .i64 R0, .int .i64 R1, .int .i64 C]) ∧ Gr w w') := by
  cases h : rdB xs with
  | false => exact ⟨0, 0, 2, fun A c w X => sLiked_no A c xs w X hn h, fun A c w X => iLiked_no A _ c 2 w (by decide) fun w' hg => iLast A _ c 0 0 0 0 0 0 0 0 0 0 2 w' fun w2 hg2 => ofR_D_no _ A c xs w2 (hid (X.out.keep (hg.trans hg2))) h⟩
  | true =>
    obtain ⟨h1, h2, h3⟩ := rd_parts h
    obtain ⟨d0, d1, d2, d3, d4, d5, d6, d7, d8, d9, hd⟩ := list10 (dgt_len xs)
    obtain ⟨j, hj⟩ := FMk.ex (ds := [d0, d1, d2, d3, d4, d5, d6, d7, d8, d9]) 10 (by decide) (by simp)
    have hj := FMk.fm (ds := [d0, d1, d2, d3, d4, d5, d6, d7, d8, d9]) hj
    obtain ⟨d, hdj, _, _⟩ := hj
    have hbd := dgt_bd xs d (by rw [hd]; exact List.mem_of_getElem? hdj)
    have hj : FM [d0, d1, d2, d3, d4, d5, d6, d7, d8, d9] j := ⟨d, hdj, by assumption, by assumption⟩
    exact ⟨_, _, 0, fun A c w X => sLiked_yes A c xs d0 d1 d2 d3 d4 d5 d6 d7 d8 d9 j d w X h hd hj hdj hbd.1 (by omega), fun A c w X => iLiked_yes A _ c d0 d1 d2 d3 d4 d5 d6 d7 d8 d9 j d w h2 hj hdj hbd.1 (by omega) fun w' hg => iLast A _ c d0 d1 d2 d3 d4 d5 d6 d7 d8 d9 0 w' fun w1 hg1 => ofR_D_yes 110 A c xs d0 d1 d2 d3 d4 d5 d6 d7 d8 d9 w1 (hid (X.out.keep (hg.trans hg1))) h (fun _ => by kernel_rfl) fun w2 hg2 => iDig A c xs d0 d1 d2 d3 d4 d5 d6 d7 d8 d9 w2 (hid (X.out.keep ((hg.trans hg1).trans hg2))) h hd⟩
end Go.Proofs.Ytmjcnagniphkeaa
