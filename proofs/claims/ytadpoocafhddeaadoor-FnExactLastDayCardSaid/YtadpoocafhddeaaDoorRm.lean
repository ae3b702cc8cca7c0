/- REFUSALS: LastDay and FindStandard, of both sides. -/
import Derived.Test.YtadpoocafhddeaaDoorRx
namespace Go.Proofs.YtadpoocafhddeaaDoor
open Go.RowKit Go.Sort

set_option maxRecDepth 20000 in
set_option maxHeartbeats 400000 in
theorem iLastD (x : Sdv) (w : World) (hs : soundB x = true) :
    Calls Tryd.prog 45 #[vSd x] w fun e w' => e = .returned (.int .i64 (x.m + x.g)) ∧ Gr w w' := by
  obtain ⟨m1, m2, g1, g2⟩ := sound_bd hs
  clear hs
  go_enter Tryd.func45, Tryd.ntmps45
  go_wp2
  go_ret
  exact ⟨rfl, (Gr.refl _).al _⟩
set_option maxRecDepth 20000 in
set_option maxHeartbeats 1000000 in
theorem iLastDay1_no (B : Option Addr) (c' : Nat) (m : Option Nat) (s : Nat) (xs : List Sdv) (i : Int) (bi : Nat) (w : World) (hx : Hid (IdxR w B xs.length m xs)) (hi : w.heap[bi]? = some (.cells #[.int .i64 i] 2)) (h : hasB xs.length i = false) :
    Calls Tryd.prog 44 #[chnV B xs.length c' m s, .pointer (some ⟨bi, 0, none⟩)] w fun e w' => e = .returned (.tuple #[.int .i64 0, .iface 66 (.int .i64 2)]) ∧ Gr w w' := by
  obtain ⟨_, hr, b, rfl, hm⟩ := hx.out
  have H := hid h; have HI := hid hi
  clear h hi hr hm
  go_enter Tryd.func44, Tryd.ntmps44
  have _ := cells1 HI.out
  have _ := fz HI.out
  have _ := ltb HI.out
  go_wp2_with fail
  refine (iHas_is B xs.length c' b i false _ H.out).mono ?_
  rintro e w1 ⟨rfl, hg1⟩
  obtain ⟨x1_0, hz1, g1⟩ := alloc1 hg1
  have x1_1 := g1.keep HI.out
  obtain ⟨_, _, _⟩ := cells3 x1_0
  have _ := fz x1_0
  have _ := ltb x1_0
  have _ := cells1 x1_1
  have _ := fz x1_1
  have _ := ltb x1_1
  have X1_0 := hid x1_0; clear x1_0
  have X1_1 := hid x1_1; clear x1_1
  have G1 := hid (g1)
  clear hg1 g1
  go_wp2
  go_ret2
  exact ⟨rfl, G1.out⟩
set_option maxRecDepth 20000 in
set_option maxHeartbeats 1000000 in
theorem iLastDay1_yes (B : Option Addr) (c' : Nat) (m : Option Nat) (s : Nat) (xs : List Sdv) (k : Nat) (y : Sdv) (bi : Nat) (w : World) (hx : Hid (IdxR w B xs.length m xs)) (hi : w.heap[bi]? = some (.cells #[.int .i64 (k : Int)] 2)) (hy : xs[k]? = some y) (hs : soundB y = true) :
    Calls Tryd.prog 44 #[chnV B xs.length c' m s, .pointer (some ⟨bi, 0, none⟩)] w fun e w' => e = .returned (.tuple #[.int .i64 (y.m + y.g), .nilIface]) ∧ Gr w w' := by
  obtain ⟨_, hrd, b, rfl, hm⟩ := hx.out
  have hkl : k < xs.length := (List.getElem?_eq_some_iff.1 hy).1
  have H := hid (has_lt hkl); have HI := hid hi; have HS := hid hs
  obtain ⟨ad, rfl, cy⟩ := hrd k y hy
  have CY := hid cy
  clear hi hrd hm hs cy hy
  go_enter Tryd.func44, Tryd.ntmps44
  have _ := cells1 HI.out
  have _ := fz HI.out
  have _ := ltb HI.out
  go_wp2_with fail
  refine (iHas_is (some ad) xs.length c' b (k : Int) true _ H.out).mono ?_
  rintro e w1 ⟨rfl, hg1⟩
  obtain ⟨x1_0, hz1, g1⟩ := alloc1 hg1
  have x1_1 := g1.keep HI.out
  obtain ⟨_, _, _⟩ := cells3 x1_0
  have _ := fz x1_0
  have _ := ltb x1_0
  have _ := cells1 x1_1
  have _ := fz x1_1
  have _ := ltb x1_1
  have X1_0 := hid x1_0; clear x1_0
  have X1_1 := hid x1_1; clear x1_1
  have G1 := hid (g1)
  clear hg1 g1
  have _ := (CY.out.keep G1.out).h0; have _ := (CY.out.keep G1.out).h1; have _ := (CY.out.keep G1.out).h2; have _ := (CY.out.keep G1.out).h3; have _ := (CY.out.keep G1.out).h4; have _ := (CY.out.keep G1.out).h5; have _ := (CY.out.keep G1.out).h6; have _ := (CY.out.keep G1.out).h7; have _ := (CY.out.keep G1.out).h8; have _ := (CY.out.keep G1.out).h9
  go_wp2_with fail
  refine (iLastD y _ HS.out).mono ?_
  rintro e w2 ⟨rfl, hg2⟩
  have x2_1 := hg2.keep X1_0.out
  have x2_2 := hg2.keep X1_1.out
  obtain ⟨_, _, _⟩ := cells3 x2_1
  have _ := fz x2_1
  have _ := ltb x2_1
  have _ := cells1 x2_2
  have _ := fz x2_2
  have _ := ltb x2_2
  have X2_1 := hid x2_1; clear x2_1
  have X2_2 := hid x2_2; clear x2_2
  have G2 := hid (G1.out.trans hg2)
  clear hg2
  go_wp2
  go_ret2
  exact ⟨rfl, G2.out⟩
set_option maxRecDepth 20000 in
set_option maxHeartbeats 1000000 in
theorem iLastDay_0 (A : Option Addr) (c : Nat) (xs : List Sdv) (i : Int) (w : World) (X : Hid (RdSd w A xs)) (E : Hid (ErrT w)) (hn : xs.length ≤ 1048576) (hch : ¬ chP xs) :
    Calls Tryd.prog 18 #[.slice A xs.length c, .int .i64 i] w fun e w' => e = .returned (.tuple #[.int .i64 0, .int .i64 1]) ∧ Gr w w' := by
  go_enter Tryd.func18, Tryd.ntmps18
  go_wp2_with fail
  refine (rc_asknoI1 44 _ A c xs _ (hid (X.out.keep ((Gr.refl w).al _))) (hid (E.out.keep ((Gr.refl w).al _))) hn hch).mono ?_
  rintro e w1 ⟨rfl, hg⟩
  have G := hid (alloc1 hg).2.2; clear hg
  go_wp2_with fail
  go_ret2
  exact ⟨rfl, G.out⟩
set_option maxRecDepth 20000 in
set_option maxHeartbeats 1000000 in
theorem iLastDay_1 (A : Option Addr) (c : Nat) (xs : List Sdv) (i : Int) (w : World) (X : Hid (RdSd w A xs)) (E : Hid (ErrT w)) (hn : xs.length ≤ 1048576) (hch : chP xs) (h : hasB xs.length i = false) :
    Calls Tryd.prog 18 #[.slice A xs.length c, .int .i64 i] w fun e w' => e = .returned (.tuple #[.int .i64 0, .int .i64 2]) ∧ Gr w w' := by
  go_enter Tryd.func18, Tryd.ntmps18
  go_wp2_with fail
  refine (rc_askyesI1 44 _ 0 (.iface 66 (.int .i64 2)) 2 A c xs _ (hid (X.out.keep ((Gr.refl w).al _))) (hid (E.out.keep ((Gr.refl w).al _))) hn hch (.inr rfl) (fun _ _ => by kernel_rfl) (fun w' B c' m s hg hx => iLastDay1_no B c' m s xs i _ w' hx (alloc1 hg).1 h)).mono ?_
  rintro e w1 ⟨rfl, hg⟩
  have G := hid (alloc1 hg).2.2; clear hg
  go_wp2_with fail
  go_ret2
  exact ⟨rfl, G.out⟩
set_option maxRecDepth 20000 in
set_option maxHeartbeats 1000000 in
theorem iLastDay_2 (A : Option Addr) (c : Nat) (xs : List Sdv) (i : Int) (w : World) (X : Hid (RdSd w A xs)) (E : Hid (ErrT w)) (hn : xs.length ≤ 1048576) (hch : chP xs) (k : Nat) (y : Sdv) (hk : i = (k : Int)) (hy : xs[k]? = some y) (hs : soundB y = true) :
    Calls Tryd.prog 18 #[.slice A xs.length c, .int .i64 i] w fun e w' => e = .returned (.tuple #[.int .i64 (y.m + y.g), .int .i64 0]) ∧ Gr w w' := by
  go_enter Tryd.func18, Tryd.ntmps18
  go_wp2_with fail
  refine (rc_askyesI1 44 _ (y.m + y.g) .nilIface 0 A c xs _ (hid (X.out.keep ((Gr.refl w).al _))) (hid (E.out.keep ((Gr.refl w).al _))) hn hch (.inl ⟨rfl, rfl⟩) (fun _ _ => by kernel_rfl) (fun w' B c' m s hg hx => iLastDay1_yes B c' m s xs k y _ w' hx (hk ▸ (alloc1 hg).1) hy hs)).mono ?_
  rintro e w1 ⟨rfl, hg⟩
  have G := hid (alloc1 hg).2.2; clear hg
  go_wp2_with fail
  go_ret2
  exact ⟨rfl, G.out⟩
/-! the reference -/
set_option maxRecDepth 20000 in
set_option maxHeartbeats 1000000 in
theorem sLastDay_no (A : Option Addr) (c : Nat) (xs : List Sdv) (i C : Int) (w : World) (h0 : C = 1 ∨ C = 2) (hS : Calls Tryd.prog 37 #[.slice A xs.length c, .int .i64 i, .int .i64 0] w fun e w' => e = .returned (.int .i64 C) ∧ Gr w w') :
    Calls Tryd.prog 17 #[.slice A xs.length c, .int .i64 i] w fun e w' => e = .returned (.tuple #[.int .i64 0, .int .i64 C]) ∧ Gr w w' := by
  have HS := hid hS; clear hS
  go_enter Tryd.func17, Tryd.ntmps17
  go_wp2_with fail
  refine HS.out.mono ?_
  rintro e w1 ⟨rfl, hg⟩
  have G := hid hg; clear hg
  rcases h0 with rfl | rfl
  all_goals
    go_wp2_with fail
    go_ret2
    exact ⟨rfl, G.out⟩
set_option maxRecDepth 20000 in
set_option maxHeartbeats 1000000 in
theorem sLastDay_yes (A : Option Addr) (c : Nat) (xs : List Sdv) (k : Nat) (y : Sdv) (w : World) (X : Hid (RdSd w A xs)) (hy : xs[k]? = some y) (hs : soundB y = true) (hS : Calls Tryd.prog 37 #[.slice A xs.length c, .int .i64 (k : Int), .int .i64 0] w fun e w' => e = .returned (.int .i64 0) ∧ Gr w w') :
    Calls Tryd.prog 17 #[.slice A xs.length c, .int .i64 (k : Int)] w fun e w' => e = .returned (.tuple #[.int .i64 (y.m + y.g), .int .i64 0]) ∧ Gr w w' := by
  have HS := hid hS; clear hS
  have hkl : k < xs.length := (List.getElem?_eq_some_iff.1 hy).1
  obtain ⟨m1, m2, g1, g2⟩ := sound_bd hs
  have HY := hid hy
  clear hs hy
  go_enter Tryd.func17, Tryd.ntmps17
  go_wp2_with fail
  refine HS.out.mono ?_
  rintro e w1 ⟨rfl, hg⟩
  obtain ⟨ad, rfl, cy⟩ := (X.out.keep hg) k y HY.out
  have G := hid hg; clear hg
  have _ := cy.h8; have _ := cy.h9
  clear cy
  go_wp2_with fail
  go_quiet (fail)
  go_wp2_with fail
  go_ret2
  exact ⟨rfl, G.out.trans (Gr.drewN _ _)⟩
theorem bothLastDay (xs : List Sdv) (i : Int) (hn : xs.length ≤ 1048576) : ∃ (R C : Int),
    (∀ (A : Option Addr) (c : Nat) (w : World), xs.length ≤ c → Hid (RdSd w A xs) → Calls Tryd.prog 17 #[.slice A xs.length c, .int .i64 i] w fun e w' => e = .returned (.tuple #[.int .i64 R, .int .i64 C]) ∧ Gr w w') ∧
    (∀ (A : Option Addr) (c : Nat) (w : World), xs.length ≤ c → Hid (RdSd w A xs) → Hid (ErrT w) → Calls Tryd.prog 18 #[.slice A xs.length c, .int .i64 i] w fun e w' => e = .returned (.tuple #[.int .i64 R, .int .i64 C]) ∧ Gr w w') := by
  by_cases hch : chP xs
  · cases hh : hasB xs.length i with
    | false => exact ⟨0, 2, fun A c w hc X => sLastDay_no A c xs i 2 w (.inr rfl) (chainAt1 A c xs i 0 w X hn hc hch hh), fun A c w _ X E => iLastDay_1 A c xs i w X E hn hch hh⟩
    | true =>
      have h8 := hh
      unfold hasB at h8
      simp only [Bool.and_eq_true, decide_eq_true_eq] at h8
      obtain ⟨k, rfl⟩ : ∃ k : Nat, i = (k : Int) := ⟨i.toNat, by omega⟩
      have hlt : k < xs.length := by omega
      have hy : xs[k]? = some xs[k] := List.getElem?_eq_getElem _
      have hs : soundB xs[k] = true := (hch k _ hy).2.1
      exact ⟨xs[k].m + xs[k].g, 0, fun A c w hc X => sLastDay_yes A c xs k xs[k] w X hy hs (chainAt2 A c xs k 0 true 0 w X hn hc hch hh (by decide) (.inl ⟨rfl, rfl⟩)), fun A c w _ X E => iLastDay_2 A c xs k w X E hn hch k xs[k] rfl hy hs⟩
  · exact ⟨0, 1, fun A c w hc X => sLastDay_no A c xs i 1 w (.inl rfl) (chainAt0 A c xs i 0 w X hc hch), fun A c w _ X E => iLastDay_0 A c xs i w X E hn hch⟩
/-! FindStandard -/
set_option maxRecDepth 20000 in
set_option maxHeartbeats 1000000 in
theorem iFind1 (B : Option Addr) (c' : Nat) (m : Option Nat) (s : Nat) (xs : List Sdv) (t : ByteArray) (bi : Nat) (w : World) (hx : Hid (IdxR w B xs.length m xs)) (hi : w.heap[bi]? = some (.cells #[.string t] 9)) :
    (∀ (j : Nat), (nms xs)[j]? = some t → (∀ k, k < j → (nms xs)[k]? ≠ some t) → Calls Tryd.prog 35 #[chnV B xs.length c' m s, .pointer (some ⟨bi, 0, none⟩)] w fun e w' => e = .returned (.tuple #[.int .i64 (j : Int), .nilIface]) ∧ Gr w w') ∧
    (t ∉ nms xs → Calls Tryd.prog 35 #[chnV B xs.length c' m s, .pointer (some ⟨bi, 0, none⟩)] w fun e w' => e = .returned (.tuple #[.int .i64 0, .iface 66 (.int .i64 6)]) ∧ Gr w w') := by
  obtain ⟨_, hrd, b, rfl, hm⟩ := hx.out
  clear hrd
  have HM := hid hm; have HI := hid hi
  clear hm hi
  constructor
  · intro j hj hlt
    rcases lookN t (nms xs) b with ⟨j', h1, h2, h3⟩ | ⟨h1, _⟩
    · have e : j = j' := by
        rcases Nat.lt_trichotomy j j' with h | h | h
        · exact absurd hj (h2 j h)
        · exact h
        · exact absurd h1 (hlt j' h)
      subst e
      have H3 := hid fun w' (hg : Gr w w') => h3 w' (hg.keep HM.out)
      clear h1 h2 h3 hj hlt
      go_enter Tryd.func35, Tryd.ntmps35
      have _ := cells1 HI.out
      have _ := fz HI.out
      have _ := ltb HI.out
      have h4 := fun o => H3.out (w.alloc o) ((Gr.refl w).al o)
      go_wp2
      go_wp2
      go_ret2
      exact ⟨rfl, ((Gr.refl _)).al _⟩
    · exact absurd (List.mem_of_getElem? hj) h1
  · intro ht
    rcases lookN t (nms xs) b with ⟨j', h1, _, _⟩ | ⟨_, h3⟩
    · exact absurd (List.mem_of_getElem? h1) ht
    · have H3 := hid fun w' (hg : Gr w w') => h3 w' (hg.keep HM.out)
      clear h3 ht
      go_enter Tryd.func35, Tryd.ntmps35
      have _ := cells1 HI.out
      have _ := fz HI.out
      have _ := ltb HI.out
      have h4 := fun o => H3.out (w.alloc o) ((Gr.refl w).al o)
      go_wp2
      go_wp2
      go_ret2
      exact ⟨rfl, ((Gr.refl _)).al _⟩
theorem iFind_0 (A : Option Addr) (c : Nat) (xs : List Sdv) (t : ByteArray) (w : World) (X : Hid (RdSd w A xs)) (E : Hid (ErrT w)) (hn : xs.length ≤ 1048576) (hch : ¬ chP xs) :
    Calls Tryd.prog 13 #[.slice A xs.length c, .string t] w fun e w' => e = .returned (.tuple #[.int .i64 0, .int .i64 1]) ∧ Gr w w' := by
  go_enter Tryd.func13, Tryd.ntmps13
  go_wp2_with fail
  refine (rc_asknoI1 35 _ A c xs _ (hid (X.out.keep ((Gr.refl w).al _))) (hid (E.out.keep ((Gr.refl w).al _))) hn hch).mono ?_
  rintro e w1 ⟨rfl, hg⟩
  have G := hid (alloc1 hg).2.2; clear hg
  go_wp2_with fail
  go_ret2
  exact ⟨rfl, G.out⟩
set_option maxRecDepth 20000 in
set_option maxHeartbeats 1000000 in
theorem iFind_1 (A : Option Addr) (c : Nat) (xs : List Sdv) (t : ByteArray) (w : World) (X : Hid (RdSd w A xs)) (E : Hid (ErrT w)) (hn : xs.length ≤ 1048576) (hch : chP xs) (h : t ∉ nms xs) :
    Calls Tryd.prog 13 #[.slice A xs.length c, .string t] w fun e w' => e = .returned (.tuple #[.int .i64 0, .int .i64 6]) ∧ Gr w w' := by
  go_enter Tryd.func13, Tryd.ntmps13
  go_wp2_with fail
  refine (rc_askyesI1 35 _ 0 (.iface 66 (.int .i64 6)) 6 A c xs _ (hid (X.out.keep ((Gr.refl w).al _))) (hid (E.out.keep ((Gr.refl w).al _))) hn hch (.inr rfl) (fun _ _ => by kernel_rfl) (fun w' B c' m s hg hx => (iFind1 B c' m s xs t _ w' hx (alloc1 hg).1).2 h)).mono ?_
  rintro e w1 ⟨rfl, hg⟩
  have G := hid (alloc1 hg).2.2; clear hg
  go_wp2_with fail
  go_ret2
  exact ⟨rfl, G.out⟩
set_option maxRecDepth 20000 in
set_option maxHeartbeats 1000000 in
theorem iFind_2 (A : Option Addr) (c : Nat) (xs : List Sdv) (t : ByteArray) (w : World) (X : Hid (RdSd w A xs)) (E : Hid (ErrT w)) (hn : xs.length ≤ 1048576) (hch : chP xs) (j : Nat) (h : (nms xs)[j]? = some t) (h2 : ∀ k, k < j → (nms xs)[k]? ≠ some t) :
    Calls Tryd.prog 13 #[.slice A xs.length c, .string t] w fun e w' => e = .returned (.tuple #[.int .i64 (j : Int), .int .i64 0]) ∧ Gr w w' := by
  go_enter Tryd.func13, Tryd.ntmps13
  go_wp2_with fail
  refine (rc_askyesI1 35 _ (j : Int) .nilIface 0 A c xs _ (hid (X.out.keep ((Gr.refl w).al _))) (hid (E.out.keep ((Gr.refl w).al _))) hn hch (.inl ⟨rfl, rfl⟩) (fun _ _ => by kernel_rfl) (fun w' B c' m s hg hx => (iFind1 B c' m s xs t _ w' hx (alloc1 hg).1).1 j h h2)).mono ?_
  rintro e w1 ⟨rfl, hg⟩
  have G := hid (alloc1 hg).2.2; clear hg
  go_wp2_with fail
  go_ret2
  exact ⟨rfl, G.out⟩
set_option maxRecDepth 20000 in
set_option maxHeartbeats 1000000 in
theorem sFind_0 (A : Option Addr) (c : Nat) (xs : List Sdv) (t : ByteArray) (w : World) (X : Hid (RdSd w A xs)) (hc : xs.length ≤ c) (hch : ¬ chP xs) :
    Calls Tryd.prog 11 #[.slice A xs.length c, .string t] w fun e w' => e = .returned (.tuple #[.int .i64 0, .int .i64 1]) ∧ Gr w w' := by
  go_enter Tryd.func11, Tryd.ntmps11
  go_wp2_with fail
  refine (chainOkNo A c xs _ X hc hch).mono ?_
  rintro e w1 ⟨rfl, hg⟩
  have G := hid hg; clear hg
  go_wp2_with fail
  go_ret2
  exact ⟨rfl, G.out⟩
set_option maxRecDepth 20000 in
set_option maxHeartbeats 1000000 in
theorem sFind_1 (A : Option Addr) (c n : Nat) (xs : List Sdv) (t : ByteArray) (R C : Int) (w : World) (X : Hid (RdSd w A xs)) (hn : xs.length = n) (h30 : n ≤ 30) (hc : n ≤ c) (hch : chP xs)
    (h : (∃ j : Nat, (nms xs)[j]? = some t ∧ (∀ k, k < j → (nms xs)[k]? ≠ some t) ∧ R = (j : Int) ∧ C = 0) ∨ (t ∉ nms xs ∧ R = 0 ∧ C = 6)) :
    Calls Tryd.prog 11 #[.slice A n c, .string t] w fun e w' => e = .returned (.tuple #[.int .i64 R, .int .i64 C]) ∧ Gr w w' := by
  have HL := hid hn; have HH := hid h
  have HO := hid (fun w (X : Hid (RdSd w A xs)) => hn ▸ chainOkYes A c xs w X (hn ▸ hc) hch)
  clear hch hn h
  go_enter Tryd.func11, Tryd.ntmps11
  go_wp2_with fail
  refine (HO.out _ X).mono ?_
  rintro e w1 ⟨rfl, hg⟩
  have G := hid hg; clear hg
  go_wp2_with fail
  go_loopw [6] (fun u wr => ∃ (k : Nat), u = .int .i64 (k : Int) ∧ k ≤ n ∧ Gr w wr ∧ ∀ (j : Nat), j < k → (nms xs)[j]? ≠ some t) (fun u _ => n - (intOf u).toNat)
  case atStart => exact ⟨0, rfl, by omega, G.out, fun j hj => by omega⟩
  case round =>
    obtain ⟨k, rfl, hk, hg, hne⟩ := hrel
    have GW := hid hg; have NE := hid hne
    clear hg hne
    by_cases hlt : k < n
    · obtain ⟨x, hp⟩ : ∃ p, xs[k]? = some p := ⟨xs[k]'(by rw [HL.out]; exact hlt), List.getElem?_eq_getElem _⟩
      obtain ⟨ad, rfl, c1⟩ := (X.out.keep GW.out) k x hp
      have HP := hid (show (nms xs)[k]? = some x.nm by unfold nms; rw [List.getElem?_map, hp]; rfl)
      have _ := c1.h0
      clear c1 hp
      cases he : (x.nm == t) with
      | true =>
        have e := (strEqN _ _).1 he
        subst e
        have hRC : R = (k : Int) ∧ C = 0 := by
          rcases HH.out with ⟨j, h1, h2, h3, h4⟩ | ⟨h1, _⟩
          · rcases Nat.lt_trichotomy j k with h | h | h
            · exact absurd h1 (NE.out j h)
            · exact ⟨by rw [h3, h], h4⟩
            · exact absurd HP.out (h2 k h)
          · exact absurd (List.mem_of_getElem? HP.out) h1
        obtain ⟨rfl, rfl⟩ := hRC
        have hq := eqlN _ _ _ he
        clear he
        go_wp2_with fail
        go_ret2
        exact ⟨rfl, GW.out⟩
      | false =>
        have NE2 := hid (show ∀ j, j < k + 1 → (nms xs)[j]? ≠ some t from fun j hj h => by
          by_cases hjk : j < k
          · exact NE.out j hjk h
          · have : j = k := by omega
            subst this
            rw [HP.out] at h
            injection h with h
            rw [(strEqN _ _).2 h] at he
            cases he)
        have hq := eqlN _ _ _ he
        clear he NE
        go_wp2_with fail
        exact ⟨⟨k + 1, by simp, by omega, GW.out, NE2.out⟩, by simp [intOf]; omega⟩
    · have hke : k = n := by omega
      subst hke
      have hRC : R = 0 ∧ C = 6 := by
        rcases HH.out with ⟨j, h1, _⟩ | ⟨_, h2, h3⟩
        · have := (List.getElem?_eq_some_iff.1 h1).1
          have hl : (nms xs).length = k := by unfold nms; simpa using HL.out
          exact absurd h1 (NE.out j (by omega))
        · exact ⟨h2, h3⟩
      obtain ⟨rfl, rfl⟩ := hRC
      go_wp2_with fail
      go_ret2
      exact ⟨rfl, GW.out⟩
theorem bothFindStandard (xs : List Sdv) (t : ByteArray) (hn : xs.length ≤ 1048576) : ∃ (R C : Int),
    (∀ (A : Option Addr) (c : Nat) (w : World), xs.length ≤ c → Hid (RdSd w A xs) → Calls Tryd.prog 11 #[.slice A xs.length c, .string t] w fun e w' => e = .returned (.tuple #[.int .i64 R, .int .i64 C]) ∧ Gr w w') ∧
    (∀ (A : Option Addr) (c : Nat) (w : World), xs.length ≤ c → Hid (RdSd w A xs) → Hid (ErrT w) → Calls Tryd.prog 13 #[.slice A xs.length c, .string t] w fun e w' => e = .returned (.tuple #[.int .i64 R, .int .i64 C]) ∧ Gr w w') := by
  by_cases hch : chP xs
  · rcases findN t (nms xs) with ⟨j, h1, h2, _⟩ | ⟨h1, _⟩
    · exact ⟨j, 0, fun A c w hc X => sFind_1 A c _ xs t _ _ w X rfl (ch_len hch) hc hch (.inl ⟨j, h1, h2, rfl, rfl⟩), fun A c w _ X E => iFind_2 A c xs t w X E hn hch j h1 h2⟩
    · exact ⟨0, 6, fun A c w hc X => sFind_1 A c _ xs t _ _ w X rfl (ch_len hch) hc hch (.inr ⟨h1, rfl, rfl⟩), fun A c w _ X E => iFind_1 A c xs t w X E hn hch h1⟩
  · exact ⟨0, 1, fun A c w hc X => sFind_0 A c xs t w X hc hch, fun A c w _ X E => iFind_0 A c xs t w X E hn hch⟩
end Go.Proofs.YtadpoocafhddeaaDoor
