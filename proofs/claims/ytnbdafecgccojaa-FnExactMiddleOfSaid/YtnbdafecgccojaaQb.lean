/- THE MIDDLE: of the program: the mean of a part of a row; what stands in the middle. -/
import Derived.Test.YtnbdafecgccojaaQa
import Derived.Test.YtnbdafecgccojaaFw
import Derived.Test.YtnbdafecgccojaaCz
namespace Go.Proofs.Ytnbdafecgccojaa
open Go.RowKit Go.Sort

/-- What a calculation ends with that tells a fraction, or that this is not valid. -/
def OutF (o : Option (Int × Int)) (w : World) (e : Ending) (w' : World) : Prop := (∀ P Q, o = some (P, Q) → e = .returned (fr P Q)) ∧ (o = none → ∃ x y, e = .panicked [{ v := .iface 212 (fr x y), recovered := false }]) ∧ Gr w w'
theorem outF_some {P Q : Int} {w : World} {f : Nat} {args : Array Value} (h : Calls Try.prog f args w fun e w' => e = .returned (fr P Q) ∧ Gr w w') : Calls Try.prog f args w (OutF (some (P, Q)) w) :=
  h.mono fun _ _ ⟨he, hg⟩ => ⟨fun _ _ h => by cases h; exact he, fun h => (by cases h), hg⟩
theorem outF_none {w : World} {f : Nat} {args : Array Value} (h : Calls Try.prog f args w fun e w' => (∃ x y, e = .panicked [{ v := .iface 212 (fr x y), recovered := false }]) ∧ Gr w w') : Calls Try.prog f args w (OutF none w) :=
  h.mono fun _ _ ⟨he, hg⟩ => ⟨fun _ _ h => (by cases h), fun _ => he, hg⟩
theorem OutF.yes {P Q : Int} {w : World} {f : Nat} {args : Array Value} (h : Calls Try.prog f args w (OutF (some (P, Q)) w)) : Calls Try.prog f args w fun e w' => e = .returned (fr P Q) ∧ Gr w w' :=
  h.mono fun _ _ ⟨h1, _, hg⟩ => ⟨h1 P Q rfl, hg⟩
theorem OutF.no {w : World} {f : Nat} {args : Array Value} (h : Calls Try.prog f args w (OutF none w)) : Calls Try.prog f args w fun e w' => (∃ x y, e = .panicked [{ v := .iface 212 (fr x y), recovered := false }]) ∧ Gr w w' :=
  h.mono fun _ _ ⟨_, h2, hg⟩ => ⟨h2 rfl, hg⟩
set_option maxRecDepth 20000 in
set_option maxHeartbeats 1000000 in
theorem ivaluesR (A : Option Addr) (c : Nat) (xs : List (Int × Int)) (w : World) (X : Hid (RdF w A xs)) (hn : (xs.length : Int) ≤ 64) :
    Calls Try.prog 259 #[.slice A xs.length c, .func (.func 236) #[] #[]] w fun e w' => ∃ g', e = .returned (sl g' xs.length) ∧ w'.heap[g']? = some (.cells (flatA xs) 30) ∧ w.heap.size ≤ g' ∧ Gr w w' := by
  have hmk := make_fracs xs.length (by omega)
  go_enter Try.func259, Try.ntmps259
  go_wp2_with fail
  go_loopw [13] (fun u wr => ∃ (k : Nat), u = .int .i64 (k : Int) ∧ k ≤ xs.length ∧ Gr w wr ∧ wr.heap[w.heap.size]? = some (.cells (flatA (xs.take k ++ List.replicate (xs.length - k) (0, 0))) 30)) (fun u _ => xs.length - (intOf u).toNat)
  case atStart =>
    refine ⟨0, rfl, by omega, (Gr.refl _).al _, ?_⟩
    have h := (alloc1 (Gr.refl (w.alloc (.cells (flatA (List.replicate xs.length (0, 0))) 30)))).1
    simpa using h
  case round =>
    obtain ⟨k, rfl, hk, g0, y3⟩ := hrel
    have GW := hid g0; have Y3 := hid y3
    clear g0 y3 hmk
    by_cases hlt : k < xs.length
    · obtain ⟨⟨p, q⟩, hpq⟩ : ∃ pq, xs[k]? = some pq := ⟨xs[k], List.getElem?_eq_getElem _⟩
      obtain ⟨ad, rfl, c1, c2⟩ := (X.out.keep GW.out) k p q hpq
      have HP := hid hpq; clear hpq
      have _ := ltb Y3.out
      go_wp2_with fail
      refine (imean_id _ _ _).mono ?_
      rintro e w6 ⟨rfl, hg6⟩
      obtain ⟨x6_0, hz6, g6⟩ := alloc1 hg6
      have x6_1 := g6.keep Y3.out
      have _ := ltb x6_1
      obtain ⟨_, _⟩ := cells2 x6_0
      have _ := fz x6_0
      have _ := ltb x6_0
      have X6_1 := hid x6_1; clear x6_1
      have X6_0 := hid x6_0; clear x6_0
      have G6 := hid (GW.out.trans g6)
      clear hg6 g6
      have f1 := fz X6_1.out
      obtain ⟨c1, c2⟩ := flat_cells X6_1.out (take_get hlt)
      go_wp2_with fail
      refine ⟨⟨k + 1, by simp, by omega, (G6.out.setCell (by simp) _).setCell (by simp) _, ?_⟩, by simp [intOf]; omega⟩
      have h := flat_store (k := k) p q X6_1.out
      rw [take_step HP.out] at h
      exact h
    · have hke : k = xs.length := by omega
      have Y3 : Hid (wr.heap[w.heap.size]? = some (.cells (flatA xs) 30)) := hid (by
        have h := Y3.out
        rw [hke] at h
        simpa using h)
      clear hke
      go_wp2_with fail
      go_ret
      exact ⟨w.heap.size, rfl, Y3.out, Nat.le_refl _, GW.out⟩
set_option maxRecDepth 20000 in
set_option maxHeartbeats 1000000 in
/-- impl.meanBy: the sum of the values over the count -/
theorem imeanByR_ok (Ad : Option Addr) (c : Nat) (xs : List (Int × Int)) (A B P Q : Int) (w : World) (X : Hid (RdF w Ad xs)) (hn1 : 1 ≤ (xs.length : Int)) (hn : (xs.length : Int) ≤ 64)
    (hs : ∀ (w : World) (g : Nat) (T : TypeId), Hid (w.heap[g]? = some (.cells (flatA xs) T)) → Calls Try.prog 200 #[sl g xs.length] w fun e w' => e = .returned (fr A B) ∧ Gr w w')
    (hd : ∀ w, Calls Try.prog 230 #[fr A B, fr (xs.length : Int) 1] w fun e w' => e = .returned (fr P Q) ∧ Gr w w') :
    Calls Try.prog 235 #[.slice Ad xs.length c, .func (.func 236) #[] #[]] w fun e w' => e = .returned (fr P Q) ∧ Gr w w' := by
  have HS := hid hs; have HD := hid hd; clear hs hd
  have hf := hid (fits_of (ok_count hn1 hn))
  go_enter Try.func235, Try.ntmps235
  go_wp2_with fail
  refine (ivaluesR Ad c xs _ (hid (X.out.keep ((Gr.refl _).al _))) hn).mono ?_
  rintro e w1 ⟨g1_, rfl, xb1, _, hg1⟩
  obtain ⟨x1_0, hz1, g1⟩ := alloc1 hg1
  obtain ⟨_, _⟩ := cells2 x1_0
  have _ := fz x1_0
  have _ := ltb x1_0
  have _ := ltb xb1
  have X1_0 := hid x1_0; clear x1_0
  have Xb1 := hid xb1; clear xb1
  have G1 := hid (g1)
  clear hg1 g1
  go_wp2_with fail
  refine (HS.out _ _ _ (hid Xb1.out)).mono ?_
  rintro e w2 ⟨rfl, hg2⟩
  have x2_1 := hg2.keep X1_0.out
  have x2_2 := hg2.keep Xb1.out
  obtain ⟨_, _⟩ := cells2 x2_1
  have _ := fz x2_1
  have _ := ltb x2_1
  have _ := ltb x2_2
  have X2_1 := hid x2_1; clear x2_1
  have X2_2 := hid x2_2; clear x2_2
  have G2 := hid (G1.out.trans hg2)
  clear hg2
  go_wp2_with fail
  refine (fit_ok _ _ _ hf.out.1 hf.out.2).mono ?_
  rintro e w3 ⟨rfl, hg3⟩
  have x3_1 := hg3.keep X2_1.out
  have x3_2 := hg3.keep X2_2.out
  obtain ⟨_, _⟩ := cells2 x3_1
  have _ := fz x3_1
  have _ := ltb x3_1
  have _ := ltb x3_2
  have X3_1 := hid x3_1; clear x3_1
  have X3_2 := hid x3_2; clear x3_2
  have G3 := hid (G2.out.trans hg3)
  clear hg3
  go_wp2_with fail
  refine (HD.out _).mono ?_
  rintro e w4 ⟨rfl, hg4⟩
  have x4_1 := hg4.keep X3_1.out
  have x4_2 := hg4.keep X3_2.out
  obtain ⟨_, _⟩ := cells2 x4_1
  have _ := fz x4_1
  have _ := ltb x4_1
  have _ := ltb x4_2
  have X4_1 := hid x4_1; clear x4_1
  have X4_2 := hid x4_2; clear x4_2
  have G4 := hid (G3.out.trans hg4)
  clear hg4
  go_wp2
  refine bodyPost_ret (v := fr P Q) (by simp [results, Try.results235, go_sem, *]) rfl ⟨rfl, ?_⟩
  exact ((G4.out).setCell (by simp <;> omega) _).setCell (by simp <;> omega) _
set_option maxRecDepth 20000 in
set_option maxHeartbeats 1000000 in
/-- .. where the sum can't be told -/
theorem imeanByR_b1 (Ad : Option Addr) (c : Nat) (xs : List (Int × Int)) (w : World) (X : Hid (RdF w Ad xs)) (hn : (xs.length : Int) ≤ 64)
    (hs : ∀ (w : World) (g : Nat) (T : TypeId), Hid (w.heap[g]? = some (.cells (flatA xs) T)) → Calls Try.prog 200 #[sl g xs.length] w fun e w' => (∃ x y, e = .panicked [{ v := .iface 212 (fr x y), recovered := false }]) ∧ Gr w w') :
    Calls Try.prog 235 #[.slice Ad xs.length c, .func (.func 236) #[] #[]] w fun e w' => (∃ x y, e = .panicked [{ v := .iface 212 (fr x y), recovered := false }]) ∧ Gr w w' := by
  have HS := hid hs; clear hs
  go_enter Try.func235, Try.ntmps235
  go_wp2_with fail
  refine (ivaluesR Ad c xs _ (hid (X.out.keep ((Gr.refl _).al _))) hn).mono ?_
  rintro e w1 ⟨g1_, rfl, xb1, _, hg1⟩
  obtain ⟨x1_0, hz1, g1⟩ := alloc1 hg1
  obtain ⟨_, _⟩ := cells2 x1_0
  have _ := fz x1_0
  have _ := ltb x1_0
  have _ := ltb xb1
  have X1_0 := hid x1_0; clear x1_0
  have Xb1 := hid xb1; clear xb1
  have G1 := hid (g1)
  clear hg1 g1
  go_wp2_with fail
  refine (HS.out _ _ _ (hid Xb1.out)).mono ?_
  rintro e w2 ⟨⟨xp, yp, rfl⟩, hg2⟩
  have x2_1 := hg2.keep X1_0.out
  have x2_2 := hg2.keep Xb1.out
  obtain ⟨_, _⟩ := cells2 x2_1
  have _ := fz x2_1
  have _ := ltb x2_1
  have _ := ltb x2_2
  have X2_1 := hid x2_1; clear x2_1
  have X2_2 := hid x2_2; clear x2_2
  have G2 := hid (G1.out.trans hg2)
  clear hg2
  exact ⟨rfl, ⟨xp, yp, rfl⟩, G2.out⟩
set_option maxRecDepth 20000 in
set_option maxHeartbeats 1000000 in
/-- .. where the mean can't be told -/
theorem imeanByR_b2 (Ad : Option Addr) (c : Nat) (xs : List (Int × Int)) (A B : Int) (w : World) (X : Hid (RdF w Ad xs)) (hn1 : 1 ≤ (xs.length : Int)) (hn : (xs.length : Int) ≤ 64)
    (hs : ∀ (w : World) (g : Nat) (T : TypeId), Hid (w.heap[g]? = some (.cells (flatA xs) T)) → Calls Try.prog 200 #[sl g xs.length] w fun e w' => e = .returned (fr A B) ∧ Gr w w')
    (hd : ∀ w, Calls Try.prog 230 #[fr A B, fr (xs.length : Int) 1] w fun e w' => (∃ x y, e = .panicked [{ v := .iface 212 (fr x y), recovered := false }]) ∧ Gr w w') :
    Calls Try.prog 235 #[.slice Ad xs.length c, .func (.func 236) #[] #[]] w fun e w' => (∃ x y, e = .panicked [{ v := .iface 212 (fr x y), recovered := false }]) ∧ Gr w w' := by
  have HS := hid hs; have HD := hid hd; clear hs hd
  have hf := hid (fits_of (ok_count hn1 hn))
  go_enter Try.func235, Try.ntmps235
  go_wp2_with fail
  refine (ivaluesR Ad c xs _ (hid (X.out.keep ((Gr.refl _).al _))) hn).mono ?_
  rintro e w1 ⟨g1_, rfl, xb1, _, hg1⟩
  obtain ⟨x1_0, hz1, g1⟩ := alloc1 hg1
  obtain ⟨_, _⟩ := cells2 x1_0
  have _ := fz x1_0
  have _ := ltb x1_0
  have _ := ltb xb1
  have X1_0 := hid x1_0; clear x1_0
  have Xb1 := hid xb1; clear xb1
  have G1 := hid (g1)
  clear hg1 g1
  go_wp2_with fail
  refine (HS.out _ _ _ (hid Xb1.out)).mono ?_
  rintro e w2 ⟨rfl, hg2⟩
  have x2_1 := hg2.keep X1_0.out
  have x2_2 := hg2.keep Xb1.out
  obtain ⟨_, _⟩ := cells2 x2_1
  have _ := fz x2_1
  have _ := ltb x2_1
  have _ := ltb x2_2
  have X2_1 := hid x2_1; clear x2_1
  have X2_2 := hid x2_2; clear x2_2
  have G2 := hid (G1.out.trans hg2)
  clear hg2
  go_wp2_with fail
  refine (fit_ok _ _ _ hf.out.1 hf.out.2).mono ?_
  rintro e w3 ⟨rfl, hg3⟩
  have x3_1 := hg3.keep X2_1.out
  have x3_2 := hg3.keep X2_2.out
  obtain ⟨_, _⟩ := cells2 x3_1
  have _ := fz x3_1
  have _ := ltb x3_1
  have _ := ltb x3_2
  have X3_1 := hid x3_1; clear x3_1
  have X3_2 := hid x3_2; clear x3_2
  have G3 := hid (G2.out.trans hg3)
  clear hg3
  go_wp2_with fail
  refine (HD.out _).mono ?_
  rintro e w4 ⟨⟨xp, yp, rfl⟩, hg4⟩
  have x4_1 := hg4.keep X3_1.out
  have x4_2 := hg4.keep X3_2.out
  obtain ⟨_, _⟩ := cells2 x4_1
  have _ := fz x4_1
  have _ := ltb x4_1
  have _ := ltb x4_2
  have X4_1 := hid x4_1; clear x4_1
  have X4_2 := hid x4_2; clear x4_2
  have G4 := hid (G3.out.trans hg4)
  clear hg4
  exact ⟨rfl, ⟨xp, yp, rfl⟩, G4.out⟩
set_option maxRecDepth 20000 in
set_option maxHeartbeats 400000 in
theorem imeanFR_ok (Ad : Option Addr) (c n : Nat) (P Q : Int) (w : World) (h : ∀ w', Gr w w' → Calls Try.prog 235 #[.slice Ad n c, .func (.func 236) #[] #[]] w' fun e w'' => e = .returned (fr P Q) ∧ Gr w' w'') :
    Calls Try.prog 174 #[.slice Ad n c] w fun e w' => e = .returned (fr P Q) ∧ Gr w w' := by
  have H := hid h; clear h
  go_enter Try.func174, Try.ntmps174
  go_wp2_with fail
  refine (H.out _ ((Gr.refl _).al _)).mono ?_
  rintro e w1 ⟨rfl, hg1⟩
  obtain ⟨x1_0, hz1, g1⟩ := alloc1 hg1
  obtain ⟨_, _⟩ := cells2 x1_0
  have _ := fz x1_0
  have _ := ltb x1_0
  have X1_0 := hid x1_0; clear x1_0
  have G1 := hid (g1)
  clear hg1 g1
  go_wp2
  refine bodyPost_ret (v := fr P Q) (by simp [results, Try.results174, go_sem, *]) rfl ⟨rfl, ?_⟩
  exact ((G1.out).setCell (by simp <;> omega) _).setCell (by simp <;> omega) _
set_option maxRecDepth 20000 in
set_option maxHeartbeats 400000 in
theorem imeanFR_bad (Ad : Option Addr) (c n : Nat) (w : World) (h : ∀ w', Gr w w' → Calls Try.prog 235 #[.slice Ad n c, .func (.func 236) #[] #[]] w' fun e w'' => (∃ x y, e = .panicked [{ v := .iface 212 (fr x y), recovered := false }]) ∧ Gr w' w'') :
    Calls Try.prog 174 #[.slice Ad n c] w fun e w' => (∃ x y, e = .panicked [{ v := .iface 212 (fr x y), recovered := false }]) ∧ Gr w w' := by
  have H := hid h; clear h
  go_enter Try.func174, Try.ntmps174
  go_wp2_with fail
  refine (H.out _ ((Gr.refl _).al _)).mono ?_
  rintro e w1 ⟨⟨xp, yp, rfl⟩, hg1⟩
  obtain ⟨x1_0, hz1, g1⟩ := alloc1 hg1
  obtain ⟨_, _⟩ := cells2 x1_0
  have _ := fz x1_0
  have _ := ltb x1_0
  have X1_0 := hid x1_0; clear x1_0
  have G1 := hid (g1)
  clear hg1 g1
  exact ⟨rfl, ⟨xp, yp, rfl⟩, G1.out⟩
theorem imeanR (Ad : Option Addr) (c : Nat) (xs : List (Int × Int)) (w : World) (X : Hid (RdF w Ad xs)) (n1 : 1 ≤ (xs.length : Int)) (n2 : (xs.length : Int) ≤ 64) (hall : xs.all (fun x => okB x.1 x.2) = true) :
    Calls Try.prog 174 #[.slice Ad xs.length c] w (OutF (mn xs.length (sm xs 0 1)) w) := by
  have hn : xs.length ≤ 1048576 := by omega
  cases hs : sm xs 0 1 with
  | some r =>
    obtain ⟨A, B⟩ := r
    have hAB := sm_ok xs 0 1 A B ok01 hs
    cases hk : okB (meP xs.length A B) (meQ xs.length A B) with
    | true =>
      have e : mn xs.length (some (A, B)) = some (meP xs.length A B, meQ xs.length A B) := if_pos hk
      rw [e]
      exact outF_some (imeanFR_ok Ad c xs.length _ _ w fun w3 hg3 => imeanByR_ok Ad c xs A B _ _ w3 (hid (X.out.keep hg3)) n1 n2 (fun w g T X => isum_ok g xs A B w T X hn hall hs) fun w => mover_t A B _ 1 w hAB (ok_count n1 n2) (by omega) hk)
    | false =>
      have e : mn xs.length (some (A, B)) = none := if_neg (by rw [hk]; decide)
      rw [e]
      exact outF_none (imeanFR_bad Ad c xs.length w fun w3 hg3 => imeanByR_b2 Ad c xs A B w3 (hid (X.out.keep hg3)) n1 n2 (fun w g T X => isum_ok g xs A B w T X hn hall hs) fun w => mover_f A B _ 1 w hAB (ok_count n1 n2) (by omega) hk)
  | none =>
    exact outF_none (imeanFR_bad Ad c xs.length w fun w3 hg3 => imeanByR_b1 Ad c xs w3 (hid (X.out.keep hg3)) n2 fun w g T X => isum_bad g xs w T X hn hall hs)
/-! the middle -/
def midO (S : List (Int × Int)) : Option (Int × Int) := if S.length % 2 = 1 then some (S.getD (S.length / 2) (0, 0)) else mn (2 : Nat) (sm [S.getD (S.length / 2 - 1) (0, 0), S.getD (S.length / 2) (0, 0)] 0 1)
set_option maxRecDepth 20000 in
set_option maxHeartbeats 1000000 in
theorem imid_odd (A : Option Addr) (c : Nat) (xs S : List (Int × Int)) (w : World) (X : Hid (RdF w A xs)) (h0 : 0 < xs.length) (hn : xs.length ≤ 64) (hall : ∀ x ∈ xs, okB x.1 x.2 = true) (hp : S.Perm xs) (hs : S.Pairwise leF) (ho : xs.length % 2 = 1) (p q : Int) (hm : S[xs.length / 2]? = some (p, q)) :
    Calls Try.prog 97 #[.slice A xs.length c] w fun e w' => e = .returned (fr p q) ∧ Gr w w' := by
  have HS := hid fun (w : World) (X : Hid (RdF w A xs)) => iSorted1 A c xs w X h0 hn hall
  have HU := hid fun (S' : List (Int × Int)) (hp' : S'.Perm xs) (hs' : S'.Pairwise leF) => leF_unique (fun x hx => hall x (hp'.mem_iff.1 hx)) (hp'.trans hp.symm) hs' hs
  have e1 : (xs.length : Int).tmod 2 = 1 := by rw [Int.tmod_eq_emod_of_nonneg (by omega)]; omega
  have e2 : (xs.length : Int).tdiv 2 = ((xs.length / 2 : Nat) : Int) := by rw [Int.tdiv_eq_ediv_of_nonneg (by omega)]; omega
  have hlt : xs.length / 2 < xs.length := by omega
  have HM := hid hm
  obtain ⟨h, hh⟩ : ∃ h, xs.length / 2 = h := ⟨_, rfl⟩
  rw [hh] at e2 hlt HM
  clear hall hp hs hm hh ho
  go_enter Try.func97, Try.ntmps97
  go_wp2_with fail
  refine (HS.out _ (hid (X.out.keep ((Gr.refl w).al _)))).mono ?_
  rintro e w1 ⟨S', A', c', rfl, hp', hs', own, hg⟩
  have hS := HU.out S' hp' hs'
  subst hS
  have RS := hid (RdF.of_ownF own)
  obtain ⟨x0, _, G1⟩ := alloc1 hg
  obtain ⟨_, _⟩ := cells2 x0
  have _ := fz x0
  have _ := ltb x0
  have G1 := hid G1
  obtain ⟨ad, rfl, c1, c2⟩ := RS.out h p q HM.out
  clear hg x0 own hp' hs'
  go_wp2_with fail
  refine bodyPost_ret (v := fr p q) (by simp [results, Try.results97, go_sem, *]) rfl ⟨rfl, ?_⟩
  exact (G1.out.setCell (by simp) _).setCell (by simp) _
theorem rd_two {w : World} {g h : Nat} {S : List (Int × Int)} {rest : List Value} {T : TypeId} {x y : Int × Int} (hg : w.heap[g]? = some (.cells (fracR S rest) T)) (hx : S[h]? = some x) (hy : S[h + 1]? = some y) : RdF w (some ⟨g, h * 2, none⟩) [x, y] := fun k p q hk => by
  match k, hk with
  | 0, hk =>
    simp at hk
    subst hk
    obtain ⟨c1, c2⟩ := fracR_cells hg hx
    exact ⟨_, rfl, by simpa [Addr.add] using c1, by simpa [Addr.add] using c2⟩
  | 1, hk =>
    simp at hk
    subst hk
    obtain ⟨c1, c2⟩ := fracR_cells hg hy
    refine ⟨_, rfl, ?_, ?_⟩
    · simpa [Addr.add, Nat.add_mul] using c1
    · simpa [Addr.add, Nat.add_mul] using c2
  | k + 2, hk => simp at hk
set_option maxRecDepth 20000 in
set_option maxHeartbeats 1000000 in
theorem imid_even (A : Option Addr) (c : Nat) (xs S : List (Int × Int)) (w : World) (X : Hid (RdF w A xs)) (h0 : 0 < xs.length) (hn : xs.length ≤ 64) (hall : ∀ x ∈ xs, okB x.1 x.2 = true) (hp : S.Perm xs) (hs : S.Pairwise leF) (ho : xs.length % 2 = 0) (h : Nat) (hh : xs.length = 2 * (h + 1)) (x y : Int × Int) (hx : S[h]? = some x) (hy : S[h + 1]? = some y) :
    Calls Try.prog 97 #[.slice A xs.length c] w (OutF (mn (2 : Nat) (sm [x, y] 0 1)) w) := by
  have HS := hid fun (w : World) (X : Hid (RdF w A xs)) => iSorted1 A c xs w X h0 hn hall
  have HU := hid fun (S' : List (Int × Int)) (hp' : S'.Perm xs) (hs' : S'.Pairwise leF) => leF_unique (fun x hx => hall x (hp'.mem_iff.1 hx)) (hp'.trans hp.symm) hs' hs
  have hok : ∀ z ∈ S, okB z.1 z.2 = true := fun z hz => hall z (hp.mem_iff.1 hz)
  have HM := hid fun (A : Option Addr) (c : Nat) (w : World) (X : Hid (RdF w A [x, y])) => imeanR A c [x, y] w X (by simp) (by simp) (by simp [hok x (List.mem_of_getElem? hx), hok y (List.mem_of_getElem? hy)])
  have e1 : (xs.length : Int).tmod 2 = 0 := by rw [Int.tmod_eq_emod_of_nonneg (by omega)]; omega
  have e2 : (xs.length : Int).tdiv 2 = (h : Int) + 1 := by rw [Int.tdiv_eq_ediv_of_nonneg (by omega)]; omega
  have hl1 : h + 2 ≤ xs.length := by omega
  have HX := hid hx; have HY := hid hy
  have hSl : S.length = xs.length := hp.length_eq
  have HSL := hid hSl
  clear hall hp hs hx hy ho hok hSl hh
  cases hmo : mn (2 : Nat) (sm [x, y] 0 1) with
  | some r =>
    obtain ⟨P, Q⟩ := r
    have HM2 := hid fun (A : Option Addr) (c : Nat) (w : World) (X : Hid (RdF w A [x, y])) => OutF.yes (hmo ▸ HM.out A c w X)
    refine outF_some ?_
    clear hmo HM
    go_enter Try.func97, Try.ntmps97
    go_wp2_with fail
    refine (HS.out _ (hid (X.out.keep ((Gr.refl w).al _)))).mono ?_
    rintro e w1 ⟨S', A', c', rfl, hp', hs', own, hg⟩
    have hS := HU.out S' hp' hs'
    subst hS
    have own' := own
    rw [← HSL.out] at own'
    obtain ⟨g, rest, rfl, _, hg1, _, _⟩ := own_openF own' (by rw [HSL.out]; exact h0)
    have hle := own_le own
    obtain ⟨x0, _, G1⟩ := alloc1 hg
    obtain ⟨_, _⟩ := cells2 x0
    have _ := fz x0
    have _ := ltb x0
    have G1 := hid G1; have X1 := hid hg1; have X0 := hid x0
    clear hg x0 own own' hp' hs' hg1
    go_wp2_with fail
    have h2 : h + 1 + 1 - h = 2 := by omega
    rw [h2]
    have R : RdF w1 (some ⟨g, h * 2, none⟩) [x, y] := rd_two X1.out HX.out HY.out
    refine (HM2.out _ _ _ (hid R)).mono ?_
    rintro e w2 ⟨rfl, hg2⟩
    have X2 := hid (hg2.keep X0.out); have G2 := hid (G1.out.trans hg2)
    clear hg2 R
    obtain ⟨_, _⟩ := cells2 X2.out
    have _ := fz X2.out
    have _ := ltb X2.out
    go_wp2_with fail
    refine bodyPost_ret (v := fr P Q) (by simp [results, Try.results97, go_sem, *]) rfl ⟨rfl, ?_⟩
    exact (G2.out.setCell (by simp) _).setCell (by simp) _
  | none =>
    have HM2 := hid fun (A : Option Addr) (c : Nat) (w : World) (X : Hid (RdF w A [x, y])) => OutF.no (hmo ▸ HM.out A c w X)
    refine outF_none ?_
    clear hmo HM
    go_enter Try.func97, Try.ntmps97
    go_wp2_with fail
    refine (HS.out _ (hid (X.out.keep ((Gr.refl w).al _)))).mono ?_
    rintro e w1 ⟨S', A', c', rfl, hp', hs', own, hg⟩
    have hS := HU.out S' hp' hs'
    subst hS
    have own' := own
    rw [← HSL.out] at own'
    obtain ⟨g, rest, rfl, _, hg1, _, _⟩ := own_openF own' (by rw [HSL.out]; exact h0)
    have hle := own_le own
    obtain ⟨x0, _, G1⟩ := alloc1 hg
    obtain ⟨_, _⟩ := cells2 x0
    have _ := fz x0
    have _ := ltb x0
    have G1 := hid G1; have X1 := hid hg1; have X0 := hid x0
    clear hg x0 own own' hp' hs' hg1
    go_wp2_with fail
    have h2 : h + 1 + 1 - h = 2 := by omega
    rw [h2]
    have R : RdF w1 (some ⟨g, h * 2, none⟩) [x, y] := rd_two X1.out HX.out HY.out
    refine (HM2.out _ _ _ (hid R)).mono ?_
    rintro e w2 ⟨⟨xp, yp, rfl⟩, hg2⟩
    exact ⟨rfl, ⟨xp, yp, rfl⟩, G1.out.trans hg2⟩
theorem getD_lt2 {S : List (Int × Int)} {k : Nat} (h : k < S.length) : S[k]? = some (S.getD k (0, 0)) := by
  rw [List.getElem?_eq_getElem h]
  simp [List.getD_eq_getElem?_getD, h]
theorem imiddle (A : Option Addr) (c : Nat) (xs S : List (Int × Int)) (w : World) (X : Hid (RdF w A xs)) (h0 : 0 < xs.length) (hn : xs.length ≤ 64) (hall : ∀ x ∈ xs, okB x.1 x.2 = true) (hp : S.Perm xs) (hs : S.Pairwise leF) :
    Calls Try.prog 97 #[.slice A xs.length c] w (OutF (midO S) w) := by
  have hl : S.length = xs.length := hp.length_eq
  unfold midO
  rw [hl]
  by_cases ho : xs.length % 2 = 1
  · rw [if_pos ho]
    exact outF_some (imid_odd A c xs S w X h0 hn hall hp hs ho _ _ (getD_lt2 (by omega)))
  · rw [if_neg ho]
    obtain ⟨h, hh⟩ : ∃ h, xs.length = 2 * (h + 1) := ⟨xs.length / 2 - 1, by omega⟩
    have e1 : xs.length / 2 - 1 = h := by omega
    have e2 : xs.length / 2 = h + 1 := by omega
    rw [e1, e2]
    exact imid_even A c xs S w X h0 hn hall hp hs (by omega) h hh _ _ (getD_lt2 (by omega)) (getD_lt2 (by omega))
end Go.Proofs.Ytnbdafecgccojaa
