/- READERS: ValueFrom of the program. -/
import Derived.Test.YtfpcbgfcachlgaaVt
namespace Go.Proofs.Ytfpcbgfcachlgaa
open Go.RowKit Go.Sort

theorem cmp_red {A B : Int} (h : A ≤ B) (h1 : okB (redP A 2) (redQ A 2) = true) (h2 : okB (redP B 2) (redQ B 2) = true) : cmpI (redP A 2) (redQ A 2) (redP B 2) (redQ B 2) ≤ 0 := by
  have e1 : redP A 2 * 2 = A * redQ A 2 := red_mul (by omega)
  have e2 : redP B 2 * 2 = B * redQ B 2 := red_mul (by omega)
  have q1 := (okB_bd h1).1
  have q2 := (okB_bd h2).1
  generalize redP A 2 = p at *
  generalize redQ A 2 = q at *
  generalize redP B 2 = r at *
  generalize redQ B 2 = s at *
  have hm : A * (q * s) ≤ B * (q * s) := Int.mul_le_mul_of_nonneg_right h (Int.mul_nonneg (by omega) (by omega))
  have s1 : A * (q * s) = 2 * (p * s) := by rw [← Int.mul_assoc, ← e1]; ac_rfl
  have s2 : B * (q * s) = 2 * (r * q) := by rw [Int.mul_comm q s, ← Int.mul_assoc, ← e2]; ac_rfl
  unfold cmpI
  split
  · omega
  · split
    · omega
    · omega
theorem spnS_ok {n : Int} {x : Rqv} (hn : okR n = true) (hx : okRd x = true) : okSp (spnS n x) = true := by
  obtain ⟨u1, u2, u3, u4⟩ := okRd_u hx
  obtain ⟨n1, n2⟩ := okR_bd hn
  have o1 : okB (redP (2 * (n - x.b) - x.u) 2) (redQ (2 * (n - x.b) - x.u) 2) = true := ok_red (by omega) (by omega) (by omega) (by omega)
  have o2 : okB (redP (2 * (n - x.b) + x.u) 2) (redQ (2 * (n - x.b) + x.u) 2) = true := ok_red (by omega) (by omega) (by omega) (by omega)
  have hc := cmp_red (show 2 * (n - x.b) - x.u ≤ 2 * (n - x.b) + x.u by omega) o1 o2
  unfold okSp spnS spB
  simp only [o1, o2, Bool.and_true, Bool.true_and]
  simpa using hc
theorem spns_ok {ns : List Int} {xs : List Rqv} (hn : ns.all okR = true) (hx : xs.all okRd = true) : ∀ (k : Nat) (x : Spv), (spns ns xs)[k]? = some x → okSp x = true := by
  induction ns generalizing xs with
  | nil => intro k x h; simp [spns] at h
  | cons n ns ih =>
    cases xs with
    | nil => intro k x h; simp [spns] at h
    | cons y ys =>
      simp only [List.all_cons, Bool.and_eq_true] at hn hx
      intro k x h
      cases k with
      | zero => simp [spns] at h; subst h; exact spnS_ok hn.1 hx.1
      | succ k => exact ih hn.2 hx.2 k x (by simpa [spns] using h)
set_option maxRecDepth 20000 in
set_option maxHeartbeats 1000000 in
theorem iVF_1 (A B : Option Addr) (c m d : Nat) (xs : List Rqv) (w : World) (X : Hid (RdRq w A xs)) (hn : xs.length ≤ 1048576) (hw : xs.all wfR = true) (hr : xs.all okRd = false) :
    Calls Try.prog 42 #[.slice A xs.length c, .slice B m d] w fun e w' => e = .returned (.tuple #[vN zN, .int .i64 1]) ∧ Gr w w' := by
  have HC := hid fun (w : World) (X : Hid (RdRq w A xs)) => iVRs A c xs false w X hn hw hr
  clear hw hr
  go_enter Try.func42, Try.ntmps42
  go_wp2_with fail
  refine (HC.out _ (hid (X.out.keep ((Gr.refl w).al _)))).mono ?_
  rintro e w1 ⟨rfl, hg1⟩
  obtain ⟨x1_0, hz1, g1⟩ := alloc1 hg1
  obtain ⟨_, _, _, _⟩ := cells4 x1_0
  have _ := fz x1_0
  have _ := ltb x1_0
  have X1_0 := hid x1_0; clear x1_0
  have G1 := hid (g1)
  clear hg1 g1
  go_wp2
  refine bodyPost_ret (v := .tuple #[sp 0 0 0 0, .int .i64 1]) (by simp [results, Try.results42, go_sem, *]) rfl ⟨rfl, ?_⟩
  exact ((((G1.out).setCell (by simp <;> omega) _).setCell (by simp <;> omega) _).setCell (by simp <;> omega) _).setCell (by simp <;> omega) _
set_option maxRecDepth 20000 in
set_option maxHeartbeats 1000000 in
theorem iVF_2 (A B : Option Addr) (c d : Nat) (xs : List Rqv) (ns : List Int) (w : World) (X : Hid (RdRq w A xs)) (Y : Hid (RdI w B ns)) (hn : xs.length ≤ 1048576) (hm : ns.length ≤ 1048576) (hw : xs.all wfR = true) (hr : xs.all okRd = true) (h : ¬ (xs.length ≤ 12 ∧ xs.length = ns.length ∧ rdB ns = true)) :
    Calls Try.prog 42 #[.slice A xs.length c, .slice B ns.length d] w fun e w' => e = .returned (.tuple #[vN zN, .int .i64 2]) ∧ Gr w w' := by
  have HC := hid fun (w : World) (X : Hid (RdRq w A xs)) => iVRs A c xs true w X hn hw hr
  clear hw hr
  by_cases h1 : xs.length ≤ 12
  · by_cases h2 : xs.length = ns.length
    · have h3 : rdB ns = false := by cases hb : rdB ns with
        | false => rfl
        | true => exact absurd ⟨h1, h2, hb⟩ h
      have HB := hid fun (w : World) (Y : Hid (RdI w B ns)) => iRd_f B d ns w Y h3
      rw [h2] at HC h1 ⊢
      clear h h2 h3 hn
      go_enter Try.func42, Try.ntmps42
      go_wp2_with fail
      refine (HC.out _ (hid (X.out.keep ((Gr.refl w).al _)))).mono ?_
      rintro e w1 ⟨rfl, hg1⟩
      obtain ⟨x1_0, hz1, g1⟩ := alloc1 hg1
      obtain ⟨_, _, _, _⟩ := cells4 x1_0
      have _ := fz x1_0
      have _ := ltb x1_0
      have X1_0 := hid x1_0; clear x1_0
      have G1 := hid (g1)
      clear hg1 g1
      go_wp2_with fail
      refine (HB.out _ (hid (Y.out.keep G1.out))).mono ?_
      rintro e w2 ⟨rfl, hg2⟩
      have x2_1 := hg2.keep X1_0.out
      obtain ⟨_, _, _, _⟩ := cells4 x2_1
      have _ := fz x2_1
      have _ := ltb x2_1
      have X2_1 := hid x2_1; clear x2_1
      have G2 := hid (G1.out.trans hg2)
      clear hg2
      go_wp2
      refine bodyPost_ret (v := .tuple #[sp 0 0 0 0, .int .i64 2]) (by simp [results, Try.results42, go_sem, *]) rfl ⟨rfl, ?_⟩
      exact ((((G2.out).setCell (by simp <;> omega) _).setCell (by simp <;> omega) _).setCell (by simp <;> omega) _).setCell (by simp <;> omega) _
    · clear h
      have h2' : ¬ (xs.length : Int) = (ns.length : Int) := by omega
      go_enter Try.func42, Try.ntmps42
      go_wp2_with fail
      refine (HC.out _ (hid (X.out.keep ((Gr.refl w).al _)))).mono ?_
      rintro e w1 ⟨rfl, hg1⟩
      obtain ⟨x1_0, hz1, g1⟩ := alloc1 hg1
      obtain ⟨_, _, _, _⟩ := cells4 x1_0
      have _ := fz x1_0
      have _ := ltb x1_0
      have X1_0 := hid x1_0; clear x1_0
      have G1 := hid (g1)
      clear hg1 g1
      go_wp2
      refine bodyPost_ret (v := .tuple #[sp 0 0 0 0, .int .i64 2]) (by simp [results, Try.results42, go_sem, *]) rfl ⟨rfl, ?_⟩
      exact ((((G1.out).setCell (by simp <;> omega) _).setCell (by simp <;> omega) _).setCell (by simp <;> omega) _).setCell (by simp <;> omega) _
  · clear h
    go_enter Try.func42, Try.ntmps42
    go_wp2_with fail
    refine (HC.out _ (hid (X.out.keep ((Gr.refl w).al _)))).mono ?_
    rintro e w1 ⟨rfl, hg1⟩
    obtain ⟨x1_0, hz1, g1⟩ := alloc1 hg1
    obtain ⟨_, _, _, _⟩ := cells4 x1_0
    have _ := fz x1_0
    have _ := ltb x1_0
    have X1_0 := hid x1_0; clear x1_0
    have G1 := hid (g1)
    clear hg1 g1
    go_wp2
    refine bodyPost_ret (v := .tuple #[sp 0 0 0 0, .int .i64 2]) (by simp [results, Try.results42, go_sem, *]) rfl ⟨rfl, ?_⟩
    exact ((((G1.out).setCell (by simp <;> omega) _).setCell (by simp <;> omega) _).setCell (by simp <;> omega) _).setCell (by simp <;> omega) _
set_option maxRecDepth 20000 in
set_option maxHeartbeats 1000000 in
theorem iVF_3 (A B : Option Addr) (c d : Nat) (xs : List Rqv) (ns : List Int) (w : World) (X : Hid (RdRq w A xs)) (Y : Hid (RdI w B ns)) (h1 : xs.length ≤ 12) (h2 : xs.length = ns.length) (h3 : rdB ns = true) (hw : xs.all wfR = true) (hr : xs.all okRd = true) (hd : divs ns xs = false) :
    Calls Try.prog 42 #[.slice A xs.length c, .slice B ns.length d] w fun e w' => e = .returned (.tuple #[vN zN, .int .i64 4]) ∧ Gr w w' := by
  obtain ⟨b1, b2, b3⟩ := rd_parts h3
  have HC := hid fun (w : World) (X : Hid (RdRq w A xs)) => iVRs A c xs true w X (by omega) hw hr
  have HB := hid fun (w : World) (Y : Hid (RdI w B ns)) => iRd_t B d ns w Y h3
  have HS := hid fun (w : World) (X : Hid (RdRq w A xs)) (Y : Hid (RdI w B ns)) => iSpansRead A B c d xs ns w X Y h2.symm (by omega) hr b3 [] 4 (.inr ⟨hd, rfl, rfl⟩)
  rw [h2] at HC HS h1 ⊢
  clear h2 h3 hw hr hd b1 b2 b3
  go_enter Try.func42, Try.ntmps42
  go_wp2_with fail
  refine (HC.out _ (hid (X.out.keep ((Gr.refl w).al _)))).mono ?_
  rintro e w1 ⟨rfl, hg1⟩
  obtain ⟨x1_0, hz1, g1⟩ := alloc1 hg1
  obtain ⟨_, _, _, _⟩ := cells4 x1_0
  have _ := fz x1_0
  have _ := ltb x1_0
  have X1_0 := hid x1_0; clear x1_0
  have G1 := hid (g1)
  clear hg1 g1
  go_wp2_with fail
  refine (HB.out _ (hid (Y.out.keep G1.out))).mono ?_
  rintro e w2 ⟨rfl, hg2⟩
  have x2_1 := hg2.keep X1_0.out
  obtain ⟨_, _, _, _⟩ := cells4 x2_1
  have _ := fz x2_1
  have _ := ltb x2_1
  have X2_1 := hid x2_1; clear x2_1
  have G2 := hid (G1.out.trans hg2)
  clear hg2
  go_wp2_with fail
  refine (HS.out _ (hid (X.out.keep G2.out)) (hid (Y.out.keep G2.out))).mono ?_
  rintro e w3 ⟨A3, c3, rfl, _, hg3⟩
  have G3 := hid (G2.out.trans hg3)
  have X3 := hid (hg3.keep X2_1.out)
  clear hg3
  obtain ⟨_, _, _, _⟩ := cells4 X3.out
  have _ := fz X3.out
  have _ := ltb X3.out
  go_wp2_with fail
  refine bodyPost_ret (v := .tuple #[vN zN, .int .i64 4]) (by simp [results, Try.results42, go_sem, zN, *]) rfl ⟨rfl, ?_⟩
  exact ((((G3.out).setCell (by simp <;> omega) _).setCell (by simp <;> omega) _).setCell (by simp <;> omega) _).setCell (by simp <;> omega) _
set_option maxRecDepth 20000 in
set_option maxHeartbeats 1000000 in
theorem iVF_4 (A B : Option Addr) (c d : Nat) (xs : List Rqv) (ns : List Int) (s0 : Spv) (R : Option Spv) (w : World) (X : Hid (RdRq w A xs)) (Y : Hid (RdI w B ns)) (h1 : xs.length ≤ 12) (h2 : xs.length = ns.length) (h3 : rdB ns = true) (hw : xs.all wfR = true) (hr : xs.all okRd = true) (hd : divs ns xs = true) (h0 : (spns ns xs)[0]? = some s0) (hR : metF s0 (spns ns xs) = R) :
    Calls Try.prog 42 #[.slice A xs.length c, .slice B ns.length d] w fun e w' => e = .returned (.tuple #[vN (R.getD zN), .int .i64 (if R.isSome then 0 else 8)]) ∧ Gr w w' := by
  obtain ⟨b1, b2, b3⟩ := rd_parts h3
  have HC := hid fun (w : World) (X : Hid (RdRq w A xs)) => iVRs A c xs true w X (by omega) hw hr
  have HB := hid fun (w : World) (Y : Hid (RdI w B ns)) => iRd_t B d ns w Y h3
  have HS := hid fun (w : World) (X : Hid (RdRq w A xs)) (Y : Hid (RdI w B ns)) => iSpansRead A B c d xs ns w X Y h2.symm (by omega) hr b3 (spns ns xs) 0 (.inl ⟨hd, rfl, rfl⟩)
  have HM := hid fun (A : Option Addr) (c : Nat) (w : World) (X : Hid (RdN w A (spns ns xs))) => iMetBy A c (spns ns xs) s0 R w X h0 (by rw [spns_len _ _ h2.symm]; omega) (spns_ok b3 hr) hR
  have hlen := spns_len ns xs h2.symm
  rw [h2] at hlen
  rw [h2] at HC HS h1 ⊢
  clear h2 h3 hw hr hd b1 b2 b3 h0 hR
  generalize spns ns xs = zs at *
  rw [hlen] at HM
  have HLN := hid hlen
  have hmz : Hid (R.isSome = false → R.getD zN = zN) := hid (by cases R <;> simp)
  obtain ⟨m, hm⟩ : ∃ m, R.getD zN = m := ⟨_, rfl⟩
  obtain ⟨bb, hbb⟩ : ∃ bb, R.isSome = bb := ⟨_, rfl⟩
  rw [hm, hbb] at HM hmz ⊢
  clear hlen hm hbb
  go_enter Try.func42, Try.ntmps42
  go_wp2_with fail
  refine (HC.out _ (hid (X.out.keep ((Gr.refl w).al _)))).mono ?_
  rintro e w1 ⟨rfl, hg1⟩
  obtain ⟨x1_0, hz1, g1⟩ := alloc1 hg1
  obtain ⟨_, _, _, _⟩ := cells4 x1_0
  have _ := fz x1_0
  have _ := ltb x1_0
  have X1_0 := hid x1_0; clear x1_0
  have G1 := hid (g1)
  clear hg1 g1
  go_wp2_with fail
  refine (HB.out _ (hid (Y.out.keep G1.out))).mono ?_
  rintro e w2 ⟨rfl, hg2⟩
  have x2_1 := hg2.keep X1_0.out
  obtain ⟨_, _, _, _⟩ := cells4 x2_1
  have _ := fz x2_1
  have _ := ltb x2_1
  have X2_1 := hid x2_1; clear x2_1
  have G2 := hid (G1.out.trans hg2)
  clear hg2
  go_wp2_with fail
  refine (HS.out _ (hid (X.out.keep G2.out)) (hid (Y.out.keep G2.out))).mono ?_
  rintro e w3 ⟨A3, c3, rfl, own, hg3⟩
  rw [HLN.out] at own ⊢
  have G3 := hid (G2.out.trans hg3)
  have X3 := hid (hg3.keep X2_1.out)
  have RN := hid (RdN.of_own own)
  clear hg3 own
  go_wp2_with fail
  refine (HM.out _ _ _ RN).mono ?_
  rintro e w4 ⟨rfl, hg4⟩
  have G4 := hid ((G3.out.trans hg4).al (.cells #[.int .i64 m.a, .int .i64 m.b, .int .i64 m.c, .int .i64 m.d] 85))
  have X4 := hid (((Gr.refl w4).al (.cells #[.int .i64 m.a, .int .i64 m.b, .int .i64 m.c, .int .i64 m.d] 85)).keep (hg4.keep X3.out))
  have Y4 := hid (alloc1 (w := w4) (A := .cells #[.int .i64 m.a, .int .i64 m.b, .int .i64 m.c, .int .i64 m.d] 85) (Gr.refl _)).1
  clear hg4
  cases bb with
  | false =>
    have HMZ := hid (hmz.out rfl); clear hmz
    obtain ⟨_, _, _, _⟩ := cells4 X4.out
    have _ := fz X4.out
    have _ := ltb X4.out
    go_wp2_with fail
    refine bodyPost_ret (v := .tuple #[vN zN, .int .i64 8]) (by simp [results, Try.results42, go_sem, zN, *]) rfl ⟨by rw [HMZ.out], ?_⟩
    exact ((((G4.out).setCell (by simp <;> omega) _).setCell (by simp <;> omega) _).setCell (by simp <;> omega) _).setCell (by simp <;> omega) _
  | true =>
    obtain ⟨_, _, _, _⟩ := cells4 X4.out
    obtain ⟨_, _, _, _⟩ := cells4 Y4.out
    have _ := fz X4.out
    have _ := ltb X4.out; have _ := ltb Y4.out
    go_wp2_with fail
    refine bodyPost_ret (v := .tuple #[vN m, .int .i64 0]) (by simp [results, Try.results42, go_sem, *]) rfl ⟨rfl, ?_⟩
    exact ((((G4.out).setCell (by simp <;> omega) _).setCell (by simp <;> omega) _).setCell (by simp <;> omega) _).setCell (by simp <;> omega) _
end Go.Proofs.Ytfpcbgfcachlgaa
