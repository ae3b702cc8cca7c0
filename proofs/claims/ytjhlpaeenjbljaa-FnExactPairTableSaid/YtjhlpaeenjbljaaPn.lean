/- PAIRS: the table of all pairs of intervals: the reference, and both sides joined. -/
import Derived.Test.YtjhlpaeenjbljaaPm
namespace Go.Proofs.Ytjhlpaeenjbljaa
open Go.RowKit Go.Sort

set_option maxRecDepth 20000 in
set_option maxHeartbeats 400000 in
theorem sPT_0 (a b : Int) (A : Option Addr) (c : Nat) (xs : List (Int × Int)) (w : World) (X : Hid (RdF w A xs)) (hn : xs.length ≤ 1048576) (h : sclB a b xs = false) :
    Calls Try.prog 41 #[scl a b A xs.length c] w fun e w' => e = .returned (.tuple #[tbl 0 none 0 0 false 0 0, .int .i64 1]) ∧ Gr w w' := by
  have h := hid h
  go_enter Try.func41, Try.ntmps41
  go_wp2_with fail
  refine (sScF a b A c _ xs _ (hid (alloc2 (Gr.refl _)).1) (hid (X.out.keep (((Gr.refl w).al _).al _))) hn h.out).mono ?_
  rintro e w1 ⟨rfl, hg1⟩
  obtain ⟨x1_0, x1_1, hz1, g1⟩ := alloc2 hg1
  obtain ⟨_, _, _⟩ := cells3 x1_0
  have _ := fz x1_0
  have _ := ltb x1_0
  obtain ⟨_, _, _, _, _⟩ := cells5 x1_1
  have _ := fz x1_1
  have _ := ltb x1_1
  have X1_0 := hid x1_0; clear x1_0
  have X1_1 := hid x1_1; clear x1_1
  have G1 := hid (g1)
  clear hg1 g1
  go_wp2
  refine bodyPost_ret (v := .tuple #[tbl 0 none 0 0 false 0 0, .int .i64 1]) (by simp [results, Try.results41, go_sem, *]) rfl ⟨rfl, ?_⟩
  exact (((((G1.out).setCell (by simp <;> omega) _).setCell (by simp <;> omega) _).setCell (by simp <;> omega) _).setCell (by simp <;> omega) _).setCell (by simp <;> omega) _
set_option maxRecDepth 20000 in
set_option maxHeartbeats 400000 in
theorem sPT_2 (a b : Int) (A : Option Addr) (c : Nat) (xs : List (Int × Int)) (w : World) (X : Hid (RdF w A xs)) (hn : xs.length ≤ 1048576) (h : sclB a b xs = true) (h2 : ¬ (3 ≤ xs.length ∧ xs.length ≤ 7)) :
    Calls Try.prog 41 #[scl a b A xs.length c] w fun e w' => e = .returned (.tuple #[tbl 0 none 0 0 false 0 0, .int .i64 2]) ∧ Gr w w' := by
  have h := hid h
  have HI := hid fun (w' : World) => (in_any ((xs.length : Int) - 1) 2 6 w').mono (R' := fun e w'' => e = .returned (.bool false) ∧ Gr w' w'') fun e w'' hh => ⟨by rw [hh.1]; simp [inB]; omega, hh.2 ▸ Gr.refl _⟩
  go_enter Try.func41, Try.ntmps41
  go_wp2_with fail
  refine (sScT a b A c _ xs _ (hid (alloc2 (Gr.refl _)).1) (hid (X.out.keep (((Gr.refl w).al _).al _))) hn h.out).mono ?_
  rintro e w1 ⟨rfl, hg1⟩
  obtain ⟨x1_0, x1_1, hz1, g1⟩ := alloc2 hg1
  obtain ⟨_, _, _⟩ := cells3 x1_0
  have _ := fz x1_0
  have _ := ltb x1_0
  obtain ⟨_, _, _, _, _⟩ := cells5 x1_1
  have _ := fz x1_1
  have _ := ltb x1_1
  have X1_0 := hid x1_0; clear x1_0
  have X1_1 := hid x1_1; clear x1_1
  have G1 := hid (g1)
  clear hg1 g1
  go_wp2_with fail
  refine (HI.out _).mono ?_
  rintro e w2 ⟨rfl, hg2⟩
  have x2_1 := hg2.keep X1_0.out
  have x2_2 := hg2.keep X1_1.out
  obtain ⟨_, _, _⟩ := cells3 x2_1
  have _ := fz x2_1
  have _ := ltb x2_1
  obtain ⟨_, _, _, _, _⟩ := cells5 x2_2
  have _ := fz x2_2
  have _ := ltb x2_2
  have X2_1 := hid x2_1; clear x2_1
  have X2_2 := hid x2_2; clear x2_2
  have G2 := hid (G1.out.trans hg2)
  clear hg2
  go_wp2
  refine bodyPost_ret (v := .tuple #[tbl 0 none 0 0 false 0 0, .int .i64 2]) (by simp [results, Try.results41, go_sem, *]) rfl ⟨rfl, ?_⟩
  exact (((((G2.out).setCell (by simp <;> omega) _).setCell (by simp <;> omega) _).setCell (by simp <;> omega) _).setCell (by simp <;> omega) _).setCell (by simp <;> omega) _
set_option maxRecDepth 20000 in
set_option maxHeartbeats 400000 in
theorem sPT_v (a b : Int) (A : Option Addr) (c : Nat) (xs : List (Int × Int)) (w : World) (X : Hid (RdF w A xs)) (hn : xs.length ≤ 1048576) (h : sclB a b xs = true) (h2 : 3 ≤ xs.length ∧ xs.length ≤ 7)
    (hv : ∀ (j : Nat) w', Hid (w'.heap[j]? = some (.cells #[.int .i64 a, .int .i64 b, .slice A xs.length c] 27)) → Hid (RdF w' A xs) → Calls Try.prog 92 #[.pointer (some ⟨j, 0, none⟩)] w' fun e w'' => (∃ A' m c', e = .returned (.tuple #[.slice A' m c', .int .i64 3])) ∧ Gr w' w'') :
    Calls Try.prog 41 #[scl a b A xs.length c] w fun e w' => e = .returned (.tuple #[tbl 0 none 0 0 false 0 0, .int .i64 3]) ∧ Gr w w' := by
  have h := hid h; have HV := hid hv; clear hv
  have HI := hid fun (w' : World) => (in_any ((xs.length : Int) - 1) 2 6 w').mono (R' := fun e w'' => e = .returned (.bool true) ∧ Gr w' w'') fun e w'' hh => ⟨by rw [hh.1]; simp [inB]; omega, hh.2 ▸ Gr.refl _⟩
  go_enter Try.func41, Try.ntmps41
  go_wp2_with fail
  refine (sScT a b A c _ xs _ (hid (alloc2 (Gr.refl _)).1) (hid (X.out.keep (((Gr.refl w).al _).al _))) hn h.out).mono ?_
  rintro e w1 ⟨rfl, hg1⟩
  obtain ⟨x1_0, x1_1, hz1, g1⟩ := alloc2 hg1
  obtain ⟨_, _, _⟩ := cells3 x1_0
  have _ := fz x1_0
  have _ := ltb x1_0
  obtain ⟨_, _, _, _, _⟩ := cells5 x1_1
  have _ := fz x1_1
  have _ := ltb x1_1
  have X1_0 := hid x1_0; clear x1_0
  have X1_1 := hid x1_1; clear x1_1
  have G1 := hid (g1)
  clear hg1 g1
  go_wp2_with fail
  refine (HI.out _).mono ?_
  rintro e w2 ⟨rfl, hg2⟩
  have x2_1 := hg2.keep X1_0.out
  have x2_2 := hg2.keep X1_1.out
  obtain ⟨_, _, _⟩ := cells3 x2_1
  have _ := fz x2_1
  have _ := ltb x2_1
  obtain ⟨_, _, _, _, _⟩ := cells5 x2_2
  have _ := fz x2_2
  have _ := ltb x2_2
  have X2_1 := hid x2_1; clear x2_1
  have X2_2 := hid x2_2; clear x2_2
  have G2 := hid (G1.out.trans hg2)
  clear hg2
  go_wp2_with fail
  refine (HV.out _ _ (hid X2_1.out) (hid (X.out.keep G2.out))).mono ?_
  rintro e w3 ⟨⟨A1, m1, c1, rfl⟩, hg3⟩
  have z3 := hg3.keep X2_2.out
  obtain ⟨_, _, _, _, _⟩ := cells5 z3
  have _ := fz z3
  have _ := ltb z3
  have G3 := hid (G2.out.trans hg3)
  clear hg3 z3
  go_wp2_with fail
  refine bodyPost_ret (v := .tuple #[tbl 0 none 0 0 false 0 0, .int .i64 3]) (by simp [results, Try.results41, go_sem, *]) rfl ⟨rfl, ?_⟩
  exact ((((G3.out.setCell (by simp <;> omega) _).setCell (by simp <;> omega) _).setCell (by simp <;> omega) _).setCell (by simp <;> omega) _).setCell (by simp <;> omega) _
set_option maxRecDepth 20000 in
set_option maxHeartbeats 400000 in
theorem sPT_s (a b : Int) (A : Option Addr) (c n : Nat) (xs vs : List (Int × Int)) (w : World) (X : Hid (RdF w A xs)) (hn : xs.length ≤ 1048576) (h : sclB a b xs = true) (h2 : 3 ≤ xs.length ∧ xs.length ≤ 7)
    (hv : ∀ (j : Nat) w', Hid (w'.heap[j]? = some (.cells #[.int .i64 a, .int .i64 b, .slice A xs.length c] 27)) → Hid (RdF w' A xs) → Calls Try.prog 92 #[.pointer (some ⟨j, 0, none⟩)] w' fun e w'' => ∃ A' c', e = .returned (.tuple #[.slice A' n c', .int .i64 0]) ∧ w''.ownsRow w'.heap.size 24 2 (.slice A' n c') n (flatL vs) ∧ Gr w' w'')
    (hs : ∀ (A' : Option Addr) (c' : Nat) w', Hid (RdF w' A' vs) → Calls Try.prog 93 #[.slice A' n c'] w' fun e w'' => e = .returned (.tuple #[fr 0 0, .int .i64 3]) ∧ Gr w' w'') :
    Calls Try.prog 41 #[scl a b A xs.length c] w fun e w' => e = .returned (.tuple #[tbl 0 none 0 0 false 0 0, .int .i64 3]) ∧ Gr w w' := by
  have h := hid h; have HV := hid hv; have HS := hid hs; clear hv hs
  have HI := hid fun (w' : World) => (in_any ((xs.length : Int) - 1) 2 6 w').mono (R' := fun e w'' => e = .returned (.bool true) ∧ Gr w' w'') fun e w'' hh => ⟨by rw [hh.1]; simp [inB]; omega, hh.2 ▸ Gr.refl _⟩
  go_enter Try.func41, Try.ntmps41
  go_wp2_with fail
  refine (sScT a b A c _ xs _ (hid (alloc2 (Gr.refl _)).1) (hid (X.out.keep (((Gr.refl w).al _).al _))) hn h.out).mono ?_
  rintro e w1 ⟨rfl, hg1⟩
  obtain ⟨x1_0, x1_1, hz1, g1⟩ := alloc2 hg1
  obtain ⟨_, _, _⟩ := cells3 x1_0
  have _ := fz x1_0
  have _ := ltb x1_0
  obtain ⟨_, _, _, _, _⟩ := cells5 x1_1
  have _ := fz x1_1
  have _ := ltb x1_1
  have X1_0 := hid x1_0; clear x1_0
  have X1_1 := hid x1_1; clear x1_1
  have G1 := hid (g1)
  clear hg1 g1
  go_wp2_with fail
  refine (HI.out _).mono ?_
  rintro e w2 ⟨rfl, hg2⟩
  have x2_1 := hg2.keep X1_0.out
  have x2_2 := hg2.keep X1_1.out
  obtain ⟨_, _, _⟩ := cells3 x2_1
  have _ := fz x2_1
  have _ := ltb x2_1
  obtain ⟨_, _, _, _, _⟩ := cells5 x2_2
  have _ := fz x2_2
  have _ := ltb x2_2
  have X2_1 := hid x2_1; clear x2_1
  have X2_2 := hid x2_2; clear x2_2
  have G2 := hid (G1.out.trans hg2)
  clear hg2
  go_wp2_with fail
  refine (HV.out _ _ (hid X2_1.out) (hid (X.out.keep G2.out))).mono ?_
  rintro e w3 ⟨A1, c1, rfl, own3, hg3⟩
  have RD3 := hid (RdF.of_ownF own3); have Z3 := hid (hg3.keep X2_2.out); have G3 := hid (G2.out.trans hg3)
  clear own3 hg3
  go_wp2_with fail
  refine (HS.out _ _ _ RD3).mono ?_
  rintro e w4 ⟨rfl, hg4⟩
  have z4 := ((Gr.refl w4).al (.cells #[.int .i64 0, .int .i64 0] 24)).keep (hg4.keep Z3.out)
  obtain ⟨_, _, _, _, _⟩ := cells5 z4
  have _ := fz z4
  have _ := ltb z4
  have G4 := hid ((G3.out.trans hg4).al (.cells #[.int .i64 0, .int .i64 0] 24))
  clear hg4 z4
  go_wp2_with fail
  refine bodyPost_ret (v := .tuple #[tbl 0 none 0 0 false 0 0, .int .i64 3]) (by simp [results, Try.results41, go_sem, *]) rfl ⟨rfl, ?_⟩
  exact ((((G4.out.setCell (by simp <;> omega) _).setCell (by simp <;> omega) _).setCell (by simp <;> omega) _).setCell (by simp <;> omega) _).setCell (by simp <;> omega) _
set_option maxRecDepth 20000 in
set_option maxHeartbeats 4000000 in
theorem sPT_p (a b : Int) (A : Option Addr) (c n : Nat) (xs vs : List (Int × Int)) (P Q : Int) (w : World) (X : Hid (RdF w A xs)) (hn : xs.length ≤ 1048576) (h : sclB a b xs = true) (hxn : xs.length = n + 1) (h2 : 2 ≤ n ∧ n ≤ 6) (hvn : vs.length = n) (hok : ∀ (k : Nat) (p q : Int), vs[k]? = some (p, q) → okB p q = true)
    (hv : ∀ (j : Nat) w', Hid (w'.heap[j]? = some (.cells #[.int .i64 a, .int .i64 b, .slice A xs.length c] 27)) → Hid (RdF w' A xs) → Calls Try.prog 92 #[.pointer (some ⟨j, 0, none⟩)] w' fun e w'' => ∃ A' c', e = .returned (.tuple #[.slice A' n c', .int .i64 0]) ∧ w''.ownsRow w'.heap.size 24 2 (.slice A' n c') n (flatL vs) ∧ Gr w' w'')
    (hs : ∀ (A' : Option Addr) (c' : Nat) w', Hid (RdF w' A' vs) → Calls Try.prog 93 #[.slice A' n c'] w' fun e w'' => e = .returned (.tuple #[fr P Q, .int .i64 0]) ∧ Gr w' w'') :
    Calls Try.prog 41 #[scl a b A xs.length c] w fun e w' => (AllPr vs ∧ GivesTb w w' e ((xs.length : Int) - 1) true P Q (prTab vs n) 0) ∨ (¬ AllPr vs ∧ GivesTb w w' e 0 false 0 0 [] 3) := by
  obtain ⟨i0, hi, iz0, iz1, iz2⟩ : ∃ i, Try.prog.info? 104 = some i ∧ i.zero = some (vO zO) ∧ i.size = 9 ∧ i.bytes = 32 := ⟨_, rfl, rfl, rfl, rfl⟩
  obtain ⟨hn2, hn6⟩ := h2
  have hx1 : xs.length ≤ n + 1 := by omega
  have hx2 : n + 1 ≤ xs.length := by omega
  clear hxn
  have h := hid h; have HV := hid hv; have HS := hid hs; have HOK := hid hok; have HVN := hid hvn; clear hv hs hok hvn
  have HI := hid fun (w' : World) => (in_any ((xs.length : Int) - 1) 2 6 w').mono (R' := fun e w'' => e = .returned (.bool true) ∧ Gr w' w'') fun e w'' hh => ⟨by rw [hh.1]; simp [inB]; omega, hh.2 ▸ Gr.refl _⟩
  go_enter Try.func41, Try.ntmps41
  go_wp2_with fail
  refine (sScT a b A c _ xs _ (hid (alloc2 (Gr.refl _)).1) (hid (X.out.keep (((Gr.refl w).al _).al _))) hn h.out).mono ?_
  rintro e w1 ⟨rfl, hg1⟩
  obtain ⟨x1_0, x1_1, hz1, g1⟩ := alloc2 hg1
  obtain ⟨_, _, _⟩ := cells3 x1_0
  have _ := fz x1_0
  have _ := ltb x1_0
  obtain ⟨_, _, _, _, _⟩ := cells5 x1_1
  have _ := fz x1_1
  have _ := ltb x1_1
  have X1_0 := hid x1_0; clear x1_0
  have X1_1 := hid x1_1; clear x1_1
  have G1 := hid (g1)
  clear hg1 g1
  go_wp2_with fail
  refine (HI.out _).mono ?_
  rintro e w2 ⟨rfl, hg2⟩
  have x2_1 := hg2.keep X1_0.out
  have x2_2 := hg2.keep X1_1.out
  obtain ⟨_, _, _⟩ := cells3 x2_1
  have _ := fz x2_1
  have _ := ltb x2_1
  obtain ⟨_, _, _, _, _⟩ := cells5 x2_2
  have _ := fz x2_2
  have _ := ltb x2_2
  have X2_1 := hid x2_1; clear x2_1
  have X2_2 := hid x2_2; clear x2_2
  have G2 := hid (G1.out.trans hg2)
  clear hg2
  go_wp2_with fail
  refine (HV.out _ _ (hid X2_1.out) (hid (X.out.keep G2.out))).mono ?_
  rintro e w3 ⟨A1, c1, rfl, own3, hg3⟩
  have RD3 := hid (RdF.of_ownF own3); have Z3 := hid (hg3.keep X2_2.out); have G3 := hid (G2.out.trans hg3)
  clear own3 hg3
  go_wp2_with fail
  refine (HS.out _ _ _ RD3).mono ?_
  rintro e w4 ⟨rfl, hg4⟩
  have RD4 := hid (RD3.out.keep hg4); have Z4 := hid (hg4.keep Z3.out); have G4 := hid (G3.out.trans hg4)
  have HW4 := hid (ltb (hg4.keep Z3.out))
  have yF := (alloc1 (w := w4) (A := .cells #[.int .i64 P, .int .i64 Q] 24) (Gr.refl _)).1
  obtain ⟨_, _⟩ := cells2 yF
  have _ := ltb yF
  clear hg4 yF RD3 Z3 G3 G2 G1 HV HS HI h X X1_0 X1_1 X2_1 X2_2
  go_wp2_with fail
  go_loopw [10] (fun u wr => ∃ (i : Nat) (A' : Option Addr) (c' L : Nat), u = .int .i64 (i : Int) ∧ i ≤ n ∧ L = (prTab vs i).length ∧ Gr w4 wr ∧ wr.heap[w4.heap.size + 1]? = some (.cells #[.int .i64 ((xs.length : Int) - 1), .slice A' L c', .bool true, .int .i64 P, .int .i64 Q] 50) ∧ wr.ownsRow w4.heap.size 104 9 (.slice A' L c') L (flO (prTab vs i)) ∧ (∀ (i' k : Nat) (r s p q : Int), i' < i → i' < k → vs[i']? = some (r, s) → vs[k]? = some (p, q) → sbB r s p q = true)) (fun u _ => n - (intOf u).toNat)
  case atStart => exact ⟨0, none, 0, 0, rfl, by omega, rfl, ((Gr.refl _).al _).al _, (alloc2 (Gr.refl _)).2.1, own_nilO _ _, fun i' k r s p q h => by omega⟩
  case round =>
    obtain ⟨i, A', c', L, rfl, hil, hL, hg, hsc, hown, hall⟩ := hrel
    have GW := hid hg; have OWN := hid hown; have YT := hid hsc; have HALL := hid hall; have HL := hid hL
    clear hg hown hsc hall hL
    by_cases hlt : i < n
    · obtain ⟨⟨r, s⟩, h0⟩ : ∃ pq, vs[i]? = some pq := ⟨vs[i]'(by rw [HVN.out]; exact hlt), List.getElem?_eq_getElem _⟩
      have H0 := hid h0; have HRS := hid (HOK.out _ _ _ h0)
      have hlt' : (i : Int) < (xs.length : Int) - 1 := by omega
      clear h0
      go_wp2_with fail
      go_loopw [11] (fun u wr => ∃ (k : Nat) (A' : Option Addr) (c' L : Nat), u = .int .i64 (k : Int) ∧ i < k ∧ k ≤ n ∧ L = (prTab vs i ++ prRow vs i (k - 1 - i)).length ∧ Gr w4 wr ∧ wr.heap[w4.heap.size + 1]? = some (.cells #[.int .i64 ((xs.length : Int) - 1), .slice A' L c', .bool true, .int .i64 P, .int .i64 Q] 50) ∧ wr.ownsRow w4.heap.size 104 9 (.slice A' L c') L (flO (prTab vs i ++ prRow vs i (k - 1 - i))) ∧ (∀ (k' : Nat) (p q : Int), i < k' → k' < k → vs[k']? = some (p, q) → sbB r s p q = true)) (fun u _ => n - (intOf u).toNat)
      case atStart =>
        have e0 : prTab vs i ++ prRow vs i (i + 1 - 1 - i) = prTab vs i := by rw [show i + 1 - 1 - i = 0 by omega]; simp [prRow]
        refine ⟨i + 1, A', c', L, by simp, by omega, by omega, by rw [e0]; exact HL.out, GW.out, YT.out, by rw [e0]; exact OWN.out, fun k' p q h1 h2 => by omega⟩
      case round =>
        obtain ⟨k, A2, c2', M, rfl, hik, hkn, hM, hg5, hsc5, hown5, hin⟩ := hrel
        have GV := hid hg5; have OWN5 := hid hown5; have Y5 := hid hsc5; have HIN := hid hin; have HM := hid hM
        have Z5 := hid (hg5.keep Z4.out)
        clear hg5 hown5 hsc5 hin hM
        by_cases hkl : k < n
        · obtain ⟨⟨p, q⟩, h1⟩ : ∃ pq, vs[k]? = some pq := ⟨vs[k]'(by rw [HVN.out]; exact hkl), List.getElem?_eq_getElem _⟩
          obtain ⟨ad, rfl, c1, c2⟩ := (RD4.out.keep GV.out) i r s H0.out
          obtain ⟨ad2, e2, d1, d2⟩ := (RD4.out.keep GV.out) k p q h1
          cases e2
          have hkl' : (k : Int) < (xs.length : Int) - 1 := by omega
          have H1 := hid h1; have HPQ := hid (HOK.out _ _ _ h1); have C1 := hid c1; have C2 := hid c2; have D1 := hid d1; have D2 := hid d2
          clear h1 c1 c2 d1 d2
          cases hd : sbB r s p q with
          | true =>
            have HD := hid hd
            have hmn := fun w => ssubv_t r s p q w HRS.out HPQ.out HD.out
            have htk := prRow_at hik H0.out H1.out
            have hML : M ≤ 42 := by rw [HM.out]; exact prTab_bd (by rw [HVN.out]; omega) (by rw [HVN.out]; exact hn6) (by omega)
            obtain ⟨x, hx⟩ : ∃ x, sbP r s p q = x := ⟨_, rfl⟩
            obtain ⟨y, hy⟩ : ∃ y, sbQ r s p q = y := ⟨_, rfl⟩
            rw [hx, hy] at hmn htk
            obtain ⟨o0, o1, o2, o3, o4, o5, ho⟩ : ∃ o0 o1 o2 o3 o4 o5, pairO i k x y = ⟨o0, o1, o2, o3, o4, o5, x, y, 1⟩ := ⟨_, _, _, _, _, _, rfl⟩
            have hpr := fun w => sPairO i k x y w (by omega) (.inl hik)
            rw [ho] at hpr htk
            have HT : Hid (prTab vs i ++ prRow vs i (k + 1 - 1 - i) = (prTab vs i ++ prRow vs i (k - 1 - i)) ++ [⟨o0, o1, o2, o3, o4, o5, x, y, 1⟩]) := hid (by rw [htk, List.append_assoc])
            have HMN := hid hmn; have HP := hid hpr
            clear hd hmn hpr hx hy ho htk
            go_wp2_with fail
            refine wp_reg1s #[.int .i64 0, .int .i64 0] 14 12 12 13 67 (by kernel_rfl) (by kernel_rfl) rfl rfl (by simp) rfl rfl (by decide) (fun _ _ => by kernel_rfl) (by kernel_rfl) ?_
            apply Exists.intro; apply Exists.intro
            refine ⟨fun wb hb => ?_, ?_⟩
            · have _ := hb.atF C1.out; have _ := hb.atF C2.out; have _ := hb.atF D1.out; have _ := hb.atF D2.out
              simp only [headOps, List.contains, List.elem, Nat.reduceAdd, Nat.reduceBEq, reduceIte, Bool.false_eq_true, dumOp]
              repeat (first | go_big_quiet_step (first | (go_at_call 94; exact Calls.of_gr (HMN.out _))) | quiet_step (fail))
              exact wpQuiet_nil rfl
            refine ⟨rfl, ⟨rfl, by simp [Value.oneCell']⟩, fun w5 b5 hg5 _ xb5 => ?_⟩
            have GW5 := hid (GV.out.trans hg5); have OWN6 := hid (own_gr OWN5.out hg5); have Y6 := hid (hg5.keep Y5.out)
            obtain ⟨_, _, _, _, _⟩ := cells5 Y6.out
            have _ := fz Y6.out
            have _ := ltb Y6.out
            obtain ⟨_, _⟩ := cells2 xb5
            have _ := ltb xb5
            clear hg5 xb5
            go_wp2_with fail
            go_region_law (first
              | (refine (step_append_gr rfl (.tmp 74) (.tmp 79) 48 rfl w4.heap.size 104 i0 (vO zO) 9 32 Try.underlying48 hi iz0 iz1 iz2 rfl (by decide) _ M _ rfl OWN7.out ⟨w7.heap.size, 0, none⟩ 1 1 (cO ⟨o0, o1, o2, o3, o4, o5, x, y, 1⟩) rfl rfl NEW.out (cO_one _) (by decide) (by unfold maxLen; omega) (by omega) hsz7 ?_); intro v' w8 own8 hgb _ hgr; obtain ⟨A3, c3, rfl⟩ := own_form own8; rw [flO_app, ← HT.out] at own8; have y8 := (hgb.block (w4.heap.size + 1) (ltb YA.out) (Ne.symm hne)).trans YA.out; have OWN8 := hid own8; have Y8 := hid y8; have G8 := hid (hgr _ GA.out (Nat.le_refl _)); obtain ⟨_, _, _, _, _⟩ := cells5 Y8.out; have _ := fz Y8.out; have _ := ltb Y8.out; clear own8 y8 hgb hgr hne hsz7)
              | (go_simp; go_wp2_with (go_at_call 95; refine (HP.out _).mono ?_; rintro e7 w7 ⟨rfl, hg7⟩; have gd := (Gr.drew w5).trans hg7; have Y7 := hid (gd.keep Y6.out); have GA := hid ((GW5.out.trans gd).al (.cells #[.int .i8 o0, .int .i8 o1, .int .i8 o2, .int .i8 o3, .int .i8 o4, .int .i8 o5, .int .i64 x, .int .i64 y, .int .i64 1] 104)); have OWN7 := hid (own_gr (own_gr OWN6.out gd) ((Gr.refl w7).al (.cells #[.int .i8 o0, .int .i8 o1, .int .i8 o2, .int .i8 o3, .int .i8 o4, .int .i8 o5, .int .i64 x, .int .i64 y, .int .i64 1] 104))); have NEW := hid (one_news9 (w := w7.alloc (.cells #[.int .i8 o0, .int .i8 o1, .int .i8 o2, .int .i8 o3, .int .i8 o4, .int .i8 o5, .int .i64 x, .int .i64 y, .int .i64 1] 104)) (b := w7.heap.size) (alloc1 (Gr.refl _)).1); have hsz7 := GA.out.size; have YA := hid (((Gr.refl w7).al (.cells #[.int .i8 o0, .int .i8 o1, .int .i8 o2, .int .i8 o3, .int .i8 o4, .int .i8 o5, .int .i64 x, .int .i64 y, .int .i64 1] 104)).keep Y7.out); have hne := own_neO OWN7.out YA.out; obtain ⟨_, _, _, _, _⟩ := cells5 Y7.out; have _ := fz Y7.out; have _ := ltb Y7.out; clear hg7 gd)))
            all_goals
              go_wp2_with fail
              refine ⟨⟨k + 1, A3, c3, M + 1, by simp, by omega, by omega, by rw [HT.out, List.length_append, ← HM.out]; rfl, G8.out.setCell (by simp) _, by simpa using Joins.block_setCell (i := 1) Y8.out _, own_setT OWN8.out Y8.out _, fun k' p' q' h1 h2 h3 => ?_⟩, by simp [intOf]; omega⟩
              by_cases hkk : k' = k
              · subst hkk
                have := H1.out.symm.trans h3
                cases this
                exact HD.out
              · exact HIN.out k' p' q' h1 (by omega) h3
          | false =>
            have HD := hid hd
            have HMN := hid fun w => ssubv_f r s p q w HRS.out HPQ.out HD.out
            have HNA : Hid (¬ AllPr vs) := hid fun h => by have := h i k r s p q hik H0.out H1.out; rw [HD.out] at this; cases this
            clear hd
            have hw4 := HW4.out
            go_wp2_with fail
            refine wp_reg1s #[.int .i64 0, .int .i64 0] 14 12 12 13 67 (by kernel_rfl) (by kernel_rfl) rfl rfl (by simp) rfl rfl (by decide) (fun _ _ => by kernel_rfl) (by kernel_rfl) ?_
            apply Exists.intro; apply Exists.intro
            refine ⟨fun wb hb => ?_, ?_⟩
            · have _ := hb.atF C1.out; have _ := hb.atF C2.out; have _ := hb.atF D1.out; have _ := hb.atF D2.out
              simp only [headOps, List.contains, List.elem, Nat.reduceAdd, Nat.reduceBEq, reduceIte, Bool.false_eq_true, dumOp]
              repeat (first | go_big_quiet_step (first | (go_at_call 94; exact Calls.of_gr (HMN.out _))) | quiet_step (fail))
              exact wpQuiet_nil rfl
            refine ⟨rfl, ⟨rfl, by simp [Value.oneCell']⟩, fun w5 b5 hg5 _ xb5 => ?_⟩
            have G5 := hid ((G4.out.trans GV.out).trans hg5); have Z6 := hid (hg5.keep Z5.out)
            obtain ⟨_, _, _, _, _⟩ := cells5 Z6.out
            have _ := fz Z6.out
            have _ := ltb Z6.out
            clear hg5 xb5
            go_wp2_with fail
            refine bodyPost_ret (v := .tuple #[tbl 0 none 0 0 false 0 0, .int .i64 3]) (by simp [results, Try.results41, go_sem, *]) rfl ?_
            exact .inr ⟨HNA.out, givesTb0 ⟨rfl, ((((G5.out.setCell (by simp <;> omega) _).setCell (by simp <;> omega) _).setCell (by simp <;> omega) _).setCell (by simp <;> omega) _).setCell (by simp <;> omega) _⟩⟩
        · have hke : k = n := by omega
          subst hke
          have hkl' : ¬ (k : Int) < (xs.length : Int) - 1 := by omega
          go_wp2_with fail
          refine ⟨⟨i + 1, A2, c2', M, by simp, by omega, by rw [prTab_succ, HVN.out]; exact HM.out, GV.out, Y5.out, by rw [prTab_succ, HVN.out]; exact OWN5.out, fun i' k' r' s' p' q' h1 h2 h3 h4 => ?_⟩, by simp [intOf]; omega⟩
          by_cases hii : i' = i
          · subst hii
            have := H0.out.symm.trans h3
            cases this
            exact HIN.out k' p' q' h2 (by have := (List.getElem?_eq_some_iff.1 h4).1; rw [HVN.out] at this; exact this) h4
          · exact HALL.out i' k' r' s' p' q' (by omega) h2 h3 h4
    · have hke : i = n := by omega
      subst hke
      have hlt' : ¬ (i : Int) < (xs.length : Int) - 1 := by omega
      have Z2 := hid (GW.out.keep Z4.out)
      have hw4 := HW4.out
      obtain ⟨_, _, _, _, _⟩ := cells5 YT.out
      obtain ⟨_, _, _, _, _⟩ := cells5 Z2.out
      have _ := fz Z2.out
      have _ := ltb Z2.out
      have hh := OWN.out
      rw [HL.out] at hh
      go_wp2_with fail
      refine bodyPost_ret (v := .tuple #[tbl ((xs.length : Int) - 1) A' L c' true P Q, .int .i64 0]) (by simp [results, Try.results41, go_sem, *]) rfl ?_
      refine .inl ⟨fun i' k r s p q h1 h2 h3 => HALL.out i' k r s p q (by have := (List.getElem?_eq_some_iff.1 h2).1; rw [HVN.out] at this; exact this) h1 h2 h3, A', c', by rw [HL.out], own_base (base' := w.heap.size) (own_low (own_low (own_low (own_low (own_low hh (by simpa using hw4) _) (by simpa using hw4) _) (by simpa using hw4) _) (by simpa using hw4) _) (by simpa using hw4) _) (by omega), ?_⟩
      exact ((((((G4.out.trans GW.out).setCell (by simp) _).setCell (by simp) _).setCell (by simp) _).setCell (by simp) _).setCell (by simp) _)
/-! the program -/
set_option maxRecDepth 20000 in
set_option maxHeartbeats 400000 in
theorem iPT_0 (a b : Int) (A : Option Addr) (c : Nat) (xs : List (Int × Int)) (w : World) (X : Hid (RdF w A xs)) (hn : xs.length ≤ 1048576) (h : sclB a b xs = false) :
    Calls Try.prog 42 #[scl a b A xs.length c] w fun e w' => e = .returned (.tuple #[tbl 0 none 0 0 false 0 0, .int .i64 1]) ∧ Gr w w' := by
  have h := hid h
  go_enter Try.func42, Try.ntmps42
  go_wp2_with fail
  refine (iScF a b A c xs _ (hid (X.out.keep (((Gr.refl w).al _).al _))) hn h.out).mono ?_
  rintro e w1 ⟨rfl, hg1⟩
  obtain ⟨x1_0, x1_1, hz1, g1⟩ := alloc2 hg1
  obtain ⟨_, _, _⟩ := cells3 x1_0
  have _ := fz x1_0
  have _ := ltb x1_0
  obtain ⟨_, _, _, _, _⟩ := cells5 x1_1
  have _ := fz x1_1
  have _ := ltb x1_1
  have X1_0 := hid x1_0; clear x1_0
  have X1_1 := hid x1_1; clear x1_1
  have G1 := hid (g1)
  clear hg1 g1
  go_wp2
  refine bodyPost_ret (v := .tuple #[tbl 0 none 0 0 false 0 0, .int .i64 1]) (by simp [results, Try.results42, go_sem, *]) rfl ⟨rfl, ?_⟩
  exact (((((G1.out).setCell (by simp <;> omega) _).setCell (by simp <;> omega) _).setCell (by simp <;> omega) _).setCell (by simp <;> omega) _).setCell (by simp <;> omega) _
set_option maxRecDepth 20000 in
set_option maxHeartbeats 400000 in
theorem iPT_2 (a b : Int) (A : Option Addr) (c : Nat) (xs : List (Int × Int)) (w : World) (X : Hid (RdF w A xs)) (hn : xs.length ≤ 1048576) (h : sclB a b xs = true) (h2 : ¬ (3 ≤ xs.length ∧ xs.length ≤ 7)) :
    Calls Try.prog 42 #[scl a b A xs.length c] w fun e w' => e = .returned (.tuple #[tbl 0 none 0 0 false 0 0, .int .i64 2]) ∧ Gr w w' := by
  have h := hid h
  by_cases h3 : (xs.length : Int) - 1 < 2
  · go_enter Try.func42, Try.ntmps42
    go_wp2_with fail
    refine (iScT a b A c xs _ (hid (X.out.keep (((Gr.refl w).al _).al _))) hn h.out).mono ?_
    rintro e w1 ⟨rfl, hg1⟩
    obtain ⟨x1_0, x1_1, hz1, g1⟩ := alloc2 hg1
    obtain ⟨_, _, _⟩ := cells3 x1_0
    have _ := fz x1_0
    have _ := ltb x1_0
    obtain ⟨_, _, _, _, _⟩ := cells5 x1_1
    have _ := fz x1_1
    have _ := ltb x1_1
    have X1_0 := hid x1_0; clear x1_0
    have X1_1 := hid x1_1; clear x1_1
    have G1 := hid (g1)
    clear hg1 g1
    go_wp2
    refine bodyPost_ret (v := .tuple #[tbl 0 none 0 0 false 0 0, .int .i64 2]) (by simp [results, Try.results42, go_sem, *]) rfl ⟨rfl, ?_⟩
    exact (((((G1.out).setCell (by simp <;> omega) _).setCell (by simp <;> omega) _).setCell (by simp <;> omega) _).setCell (by simp <;> omega) _).setCell (by simp <;> omega) _
  · have h5 : 6 < (xs.length : Int) - 1 := by omega
    go_enter Try.func42, Try.ntmps42
    go_wp2_with fail
    refine (iScT a b A c xs _ (hid (X.out.keep (((Gr.refl w).al _).al _))) hn h.out).mono ?_
    rintro e w1 ⟨rfl, hg1⟩
    obtain ⟨x1_0, x1_1, hz1, g1⟩ := alloc2 hg1
    obtain ⟨_, _, _⟩ := cells3 x1_0
    have _ := fz x1_0
    have _ := ltb x1_0
    obtain ⟨_, _, _, _, _⟩ := cells5 x1_1
    have _ := fz x1_1
    have _ := ltb x1_1
    have X1_0 := hid x1_0; clear x1_0
    have X1_1 := hid x1_1; clear x1_1
    have G1 := hid (g1)
    clear hg1 g1
    go_wp2
    refine bodyPost_ret (v := .tuple #[tbl 0 none 0 0 false 0 0, .int .i64 2]) (by simp [results, Try.results42, go_sem, *]) rfl ⟨rfl, ?_⟩
    exact (((((G1.out).setCell (by simp <;> omega) _).setCell (by simp <;> omega) _).setCell (by simp <;> omega) _).setCell (by simp <;> omega) _).setCell (by simp <;> omega) _
set_option maxRecDepth 20000 in
set_option maxHeartbeats 400000 in
theorem iPT_3 (a b : Int) (A : Option Addr) (c : Nat) (xs : List (Int × Int)) (w : World) (X : Hid (RdF w A xs)) (hn : xs.length ≤ 1048576) (h : sclB a b xs = true) (h2 : 3 ≤ xs.length ∧ xs.length ≤ 7)
    (hp : ∀ w', Hid (RdF w' A xs) → Calls Try.prog 97 #[scl a b A xs.length c] w' fun e w'' => (∃ x y, e = .panicked [{ v := .iface 138 (fr x y), recovered := false }]) ∧ Gr w' w'') :
    Calls Try.prog 42 #[scl a b A xs.length c] w fun e w' => e = .returned (.tuple #[tbl 0 none 0 0 false 0 0, .int .i64 3]) ∧ Gr w w' := by
  have h := hid h; have HP := hid hp; clear hp
  have h3 : ¬ (xs.length : Int) - 1 < 2 := by omega
  have h4 : ¬ 6 < (xs.length : Int) - 1 := by omega
  go_enter Try.func42, Try.ntmps42
  go_wp2_with fail
  refine (iScT a b A c xs _ (hid (X.out.keep (((Gr.refl w).al _).al _))) hn h.out).mono ?_
  rintro e w1 ⟨rfl, hg1⟩
  obtain ⟨x1_0, x1_1, hz1, g1⟩ := alloc2 hg1
  obtain ⟨_, _, _⟩ := cells3 x1_0
  have _ := fz x1_0
  have _ := ltb x1_0
  obtain ⟨_, _, _, _, _⟩ := cells5 x1_1
  have _ := fz x1_1
  have _ := ltb x1_1
  have X1_0 := hid x1_0; clear x1_0
  have X1_1 := hid x1_1; clear x1_1
  have G1 := hid (g1)
  clear hg1 g1
  go_wp2_with fail
  refine (toldT_great 97 (scl a b A xs.length c) _ (fun _ => by kernel_rfl) fun w' hg' => HP.out w' (hid (X.out.keep (G1.out.trans hg')))).mono ?_
  rintro e w2 ⟨rfl, hg2⟩
  have x2_1 := hg2.keep X1_0.out
  have x2_2 := hg2.keep X1_1.out
  obtain ⟨_, _, _⟩ := cells3 x2_1
  have _ := fz x2_1
  have _ := ltb x2_1
  obtain ⟨_, _, _, _, _⟩ := cells5 x2_2
  have _ := fz x2_2
  have _ := ltb x2_2
  have X2_1 := hid x2_1; clear x2_1
  have X2_2 := hid x2_2; clear x2_2
  have G2 := hid (G1.out.trans hg2)
  clear hg2
  go_wp2
  refine bodyPost_ret (v := .tuple #[tbl 0 none 0 0 false 0 0, .int .i64 3]) (by simp [results, Try.results42, go_sem, *]) rfl ⟨rfl, ?_⟩
  exact (((((G2.out).setCell (by simp <;> omega) _).setCell (by simp <;> omega) _).setCell (by simp <;> omega) _).setCell (by simp <;> omega) _).setCell (by simp <;> omega) _
set_option maxRecDepth 20000 in
set_option maxHeartbeats 400000 in
theorem iPT_4 (a b : Int) (A : Option Addr) (c : Nat) (xs : List (Int × Int)) (n p q : Int) (ys : List Obv) (w : World) (X : Hid (RdF w A xs)) (hn : xs.length ≤ 1048576) (h : sclB a b xs = true) (h2 : 3 ≤ xs.length ∧ xs.length ≤ 7)
    (hp : ∀ w', Hid (RdF w' A xs) → Calls Try.prog 97 #[scl a b A xs.length c] w' fun e w'' => ∃ A' c', e = .returned (tbl n A' ys.length c' true p q) ∧ w''.ownsRow w'.heap.size 104 9 (.slice A' ys.length c') ys.length (flO ys) ∧ Gr w' w'') :
    Calls Try.prog 42 #[scl a b A xs.length c] w fun e w' => GivesTb w w' e n true p q ys 0 := by
  have h := hid h; have HP := hid hp; clear hp
  have h3 : ¬ (xs.length : Int) - 1 < 2 := by omega
  have h4 : ¬ 6 < (xs.length : Int) - 1 := by omega
  go_enter Try.func42, Try.ntmps42
  go_wp2_with fail
  refine (iScT a b A c xs _ (hid (X.out.keep (((Gr.refl w).al _).al _))) hn h.out).mono ?_
  rintro e w1 ⟨rfl, hg1⟩
  obtain ⟨x1_0, x1_1, hz1, g1⟩ := alloc2 hg1
  obtain ⟨_, _, _⟩ := cells3 x1_0
  have _ := fz x1_0
  have _ := ltb x1_0
  obtain ⟨_, _, _, _, _⟩ := cells5 x1_1
  have _ := fz x1_1
  have _ := ltb x1_1
  have X1_0 := hid x1_0; clear x1_0
  have X1_1 := hid x1_1; clear x1_1
  have G1 := hid (g1)
  clear hg1 g1
  have hw1 : w.heap.size + 1 < w1.heap.size := ltb X1_1.out
  go_wp2_with fail
  refine (toldT_ok 97 (scl a b A xs.length c) n true p q ys _ (fun _ => by kernel_rfl) fun w' hg' => HP.out w' (hid (X.out.keep (G1.out.trans hg')))).mono ?_
  rintro e w2 ⟨A', c', rfl, own, hg⟩
  have OWN := hid own; have G2 := hid (G1.out.trans hg); have Z2 := hid (hg.keep X1_1.out)
  clear own hg
  obtain ⟨_, _, _, _, _⟩ := cells5 Z2.out
  have _ := fz Z2.out
  have _ := ltb Z2.out
  go_wp2_with fail
  refine bodyPost_ret (v := .tuple #[tbl n A' ys.length c' true p q, .int .i64 0]) (by simp [results, Try.results42, go_sem, *]) rfl ?_
  exact ⟨A', c', rfl, own_base (base' := w.heap.size) (own_low (own_low (own_low (own_low (own_low OWN.out (by simpa using hw1) _) (by simpa using hw1) _) (by simpa using hw1) _) (by simpa using hw1) _) (by simpa using hw1) _) (by omega), ((((G2.out.setCell (by simp) _).setCell (by simp) _).setCell (by simp) _).setCell (by simp) _).setCell (by simp) _⟩
theorem bothPairTable (a b : Int) (xs : List (Int × Int)) (hn : xs.length ≤ 1048576) : ∃ (n : Int) (kb : Bool) (u v : Int) (ys : List Obv) (C : Int), ys.length ≤ 1048576 ∧
    (∀ (A : Option Addr) (c : Nat) (w : World), xs.length ≤ c → Hid (RdF w A xs) → Calls Try.prog 41 #[scl a b A xs.length c] w fun e w' => GivesTb w w' e n kb u v ys C) ∧
    (∀ (A : Option Addr) (c : Nat) (w : World), xs.length ≤ c → Hid (RdF w A xs) → Calls Try.prog 42 #[scl a b A xs.length c] w fun e w' => GivesTb w w' e n kb u v ys C) := by
  cases h1 : sclB a b xs with
  | false => exact ⟨0, false, 0, 0, [], 1, by simp, fun A c w _ X => (sPT_0 a b A c xs w X hn h1).mono fun e w' h => givesTb0 h, fun A c w _ X => (iPT_0 a b A c xs w X hn h1).mono fun e w' h => givesTb0 h⟩
  | true =>
  by_cases h2 : 3 ≤ xs.length ∧ xs.length ≤ 7
  · have S := scl_of h1
    have hvl : (ivs xs).length = xs.length - 1 := ivs_len xs
    by_cases hv : AllV xs
    · have hok := ivs_ok hv
      have hall : (ivs xs).all (fun x => okB x.1 x.2) = true := by
        rw [List.all_eq_true]
        rintro ⟨p, q⟩ hx
        obtain ⟨k, hk, he⟩ := List.mem_iff_getElem.1 hx
        exact hok k p q (by rw [List.getElem?_eq_getElem hk, he])
      have iv : ∀ (A : Option Addr) (c : Nat), xs.length ≤ c → ∀ w', Hid (RdF w' A xs) → Calls Try.prog 134 #[scl a b A xs.length c] w' fun e w'' => ∃ A' c', e = .returned (.slice A' (xs.length - 1) c') ∧ w''.ownsRow w'.heap.size 24 2 (.slice A' (xs.length - 1) c') (xs.length - 1) (flatL (ivs xs)) ∧ Gr w' w'' := fun A c hc w' X =>
        (iivl a b A c xs w' X S.lo S.hi hc S.ok).mono fun e w'' ⟨h, hg⟩ => h.elim (fun ⟨_, A', c', he, ho⟩ => ⟨A', c', he, ho, hg⟩) (fun h => absurd hv h.1)
      have sv : ∀ (A : Option Addr) (c : Nat), ∀ (j : Nat) w', Hid (w'.heap[j]? = some (.cells #[.int .i64 a, .int .i64 b, .slice A xs.length c] 27)) → Hid (RdF w' A xs) → Calls Try.prog 92 #[.pointer (some ⟨j, 0, none⟩)] w' fun e w'' => ∃ A' c', e = .returned (.tuple #[.slice A' (xs.length - 1) c', .int .i64 0]) ∧ w''.ownsRow w'.heap.size 24 2 (.slice A' (xs.length - 1) c') (xs.length - 1) (flatL (ivs xs)) ∧ Gr w' w'' := fun A c j w' Y X =>
        (sivl a b A c j xs w' Y X S.lo S.hi S.ok).mono fun e w'' h => h.elim (fun ⟨_, A', c', he, ho, hg⟩ => ⟨A', c', by rw [he, hvl], by rw [hvl] at ho; exact ho, hg⟩) (fun h => absurd hv h.1)
      cases hsm : sm (ivs xs) 0 1 with
      | none =>
        exact ⟨0, false, 0, 0, [], 3, by simp, fun A c w _ X => (sPT_s a b A c (xs.length - 1) xs (ivs xs) w X hn h1 h2 (sv A c) fun A' c' w' R => (hvl ▸ ssumT A' c' (ivs xs) w' R (by omega) hall).mono fun e w'' h => ⟨by rw [h.1, hsm]; rfl, h.2⟩).mono fun e w' h => givesTb0 h,
          fun A c w hc X => (iPT_3 a b A c xs w X hn h1 h2 fun w' X' => ipt_s a b A c (xs.length - 1) xs (ivs xs) w' X' (iv A c hc) fun A' c' w'' R => hvl ▸ isumT_bad A' c' (ivs xs) w'' R (by omega) hall hsm).mono fun e w' h => givesTb0 h⟩
      | some PQ =>
        obtain ⟨P, Q⟩ := PQ
        have hip : ∀ (A : Option Addr) (c : Nat), xs.length ≤ c → ∀ w', Hid (RdF w' A xs) → _ := fun A c hc w' X => ipt_p a b A c (xs.length - 1) xs (ivs xs) P Q w' X hvl (by omega) hok (iv A c hc) fun A' c' w'' R => hvl ▸ isumT_ok A' c' (ivs xs) P Q w'' R (by omega) hall hsm
        have hsp : ∀ (A : Option Addr) (c : Nat) w', Hid (RdF w' A xs) → _ := fun A c w' X => sPT_p a b A c (xs.length - 1) xs (ivs xs) P Q w' X hn h1 (by omega) (by omega) hvl hok (sv A c) fun A' c' w'' R => (hvl ▸ ssumT A' c' (ivs xs) w'' R (by omega) hall).mono fun e w3 h => ⟨by rw [h.1, hsm]; rfl, h.2⟩
        by_cases hap : AllPr (ivs xs)
        · have hlen : (prTab (ivs xs) (xs.length - 1)).length ≤ 1048576 := by
            have h1 := prTab_len (ivs xs) (xs.length - 1)
            rw [hvl] at h1
            have h2 : (xs.length - 1) * (xs.length - 1) ≤ 6 * 6 := Nat.mul_le_mul (by omega) (by omega)
            omega
          exact ⟨(xs.length : Int) - 1, true, P, Q, prTab (ivs xs) (xs.length - 1), 0, hlen, fun A c w _ X => (hsp A c w X).mono fun e w' h => h.elim (fun h => h.2) (fun h => absurd hap h.1),
            fun A c w hc X => iPT_4 a b A c xs ((xs.length : Int) - 1) P Q (prTab (ivs xs) (xs.length - 1)) w X hn h1 h2 fun w' X' => (hip A c hc w' X').mono fun e w'' ⟨h, hg⟩ => h.elim (fun ⟨_, A', c', he, ho⟩ => ⟨A', c', by rw [he, show ((xs.length - 1 : Nat) : Int) = (xs.length : Int) - 1 by omega], ho, hg⟩) (fun h => absurd hap h.1)⟩
        · exact ⟨0, false, 0, 0, [], 3, by simp, fun A c w _ X => (hsp A c w X).mono fun e w' h => h.elim (fun h => absurd h.1 hap) (fun h => h.2),
            fun A c w hc X => (iPT_3 a b A c xs w X hn h1 h2 fun w' X' => (hip A c hc w' X').mono fun e w'' ⟨h, hg⟩ => h.elim (fun h => absurd h.1 hap) (fun h => ⟨h.2, hg⟩)).mono fun e w' h => givesTb0 h⟩
    · exact ⟨0, false, 0, 0, [], 3, by simp, fun A c w _ X => (sPT_v a b A c xs w X hn h1 h2 fun j w' Y X' => (sivl a b A c j xs w' Y X' S.lo S.hi S.ok).mono fun e w'' h => h.elim (fun h => absurd h.1 hv) (fun ⟨_, A', c', he, _, hg⟩ => ⟨⟨A', _, c', he⟩, hg⟩)).mono fun e w' h => givesTb0 h,
        fun A c w hc X => (iPT_3 a b A c xs w X hn h1 h2 fun w' X' => ipt_v a b A c xs w' X' fun w'' X'' => (iivl a b A c xs w'' X'' S.lo S.hi hc S.ok).mono fun e w3 ⟨h, hg⟩ => h.elim (fun h => absurd h.1 hv) (fun h => ⟨h.2, hg⟩)).mono fun e w' h => givesTb0 h⟩
  · exact ⟨0, false, 0, 0, [], 2, by simp, fun A c w _ X => (sPT_2 a b A c xs w X hn h1 h2).mono fun e w' h => givesTb0 h, fun A c w _ X => (iPT_2 a b A c xs w X hn h1 h2).mono fun e w' h => givesTb0 h⟩
end Go.Proofs.Ytjhlpaeenjbljaa
