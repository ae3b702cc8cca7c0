/- WALKS: MeanOf, of the program and of the reference: the ends. -/
import Derived.Test.YtmjcnagniphkeaaFw
namespace Go.Proofs.Ytmjcnagniphkeaa
open Go.RowKit Go.Sort

set_option maxRecDepth 20000 in
set_option maxHeartbeats 400000 in
theorem imeanF_ok (g n : Nat) (P Q : Int) (w : World) (h : ∀ w', Gr w w' → Calls Try.prog 135 #[sl g n, .func (.func 136) #[] #[]] w' fun e w'' => e = .returned (fr P Q) ∧ Gr w' w'') :
    Calls Try.prog 66 #[sl g n] w fun e w' => e = .returned (fr P Q) ∧ Gr w w' := by
  have H := hid h; clear h
  go_enter Try.func66, Try.ntmps66
  go_wp2_with fail
  refine (H.out _ ((Gr.refl _).al _)).mono ?_
  rintro e w1 ⟨rfl, hg1⟩
  obtain ⟨x1_0, hz1, g1⟩ := alloc1 hg1
  obtain ⟨_, _⟩ := cells2 x1_0
  have _ := fz x1_0
  have _ := ltb x1_0
  have X1_0 := hid x1_0; clear x1_0
  have G1 := hid (g1)
  clear hg1 g1
  go_wp2
  refine bodyPost_ret (v := fr P Q) (by simp [results, Try.results66, go_sem, *]) rfl ⟨rfl, ?_⟩
  exact ((G1.out).setCell (by simp <;> omega) _).setCell (by simp <;> omega) _
set_option maxRecDepth 20000 in
set_option maxHeartbeats 400000 in
theorem imeanF_bad (g n : Nat) (w : World) (h : ∀ w', Gr w w' → Calls Try.prog 135 #[sl g n, .func (.func 136) #[] #[]] w' fun e w'' => (∃ x y, e = .panicked [{ v := .iface 223 (fr x y), recovered := false }]) ∧ Gr w' w'') :
    Calls Try.prog 66 #[sl g n] w fun e w' => (∃ x y, e = .panicked [{ v := .iface 223 (fr x y), recovered := false }]) ∧ Gr w w' := by
  have H := hid h; clear h
  go_enter Try.func66, Try.ntmps66
  go_wp2_with fail
  refine (H.out _ ((Gr.refl _).al _)).mono ?_
  rintro e w1 ⟨⟨xp, yp, rfl⟩, hg1⟩
  obtain ⟨x1_0, hz1, g1⟩ := alloc1 hg1
  obtain ⟨_, _⟩ := cells2 x1_0
  have _ := fz x1_0
  have _ := ltb x1_0
  have X1_0 := hid x1_0; clear x1_0
  have G1 := hid (g1)
  clear hg1 g1
  exact ⟨rfl, ⟨xp, yp, rfl⟩, G1.out⟩
set_option maxRecDepth 20000 in
set_option maxHeartbeats 400000 in
theorem sMean_no (g : Nat) (xs : List (Int × Int)) (c : Int) (w : World) (T : TypeId) (X1 : Hid (w.heap[g]? = some (.cells (flatA xs) T))) (hn : xs.length ≤ 1048576) (hc : lstC xs 1 = c) (h0 : c ≠ 0) :
    Calls Try.prog 16 #[sl g xs.length] w fun e w' => e = .returned (.tuple #[fr 0 0, .int .i64 c]) ∧ Gr w w' := by
  have SL : ∀ w, Hid (w.heap[g]? = some (.cells (flatA xs) T)) → Calls Try.prog 63 #[sl g xs.length, .int .i64 1] w fun e w' => e = .returned (.int .i64 c) ∧ Gr w w' := fun w X => (slist g xs 1 w T X hn (by omega) (by omega)).mono fun e w' ⟨he, hg⟩ => ⟨by rw [he, hc], hg⟩
  have SL := hid SL
  have c1 : ((c : Int) == 0) = false := by simpa using h0
  have c2 : ((c : Int) != 0) = true := by simpa using h0
  clear hc h0
  go_enter Try.func16, Try.ntmps16
  have _ := ltb X1.out
  go_wp2_with fail
  refine (SL.out _ (hid (((Gr.refl _).al _).keep X1.out))).mono ?_
  rintro e w1 ⟨rfl, hg1⟩
  obtain ⟨x1_0, hz1, g1⟩ := alloc1 hg1
  have x1_1 := g1.keep X1.out
  obtain ⟨_, _⟩ := cells2 x1_0
  have _ := fz x1_0
  have _ := ltb x1_0
  have _ := ltb x1_1
  have X1_0 := hid x1_0; clear x1_0
  have X1_1 := hid x1_1; clear x1_1
  have G1 := hid (g1)
  clear hg1 g1
  go_wp2
  refine bodyPost_ret (v := .tuple #[fr 0 0, .int .i64 c]) (by simp [results, Try.results16, go_sem, *]) rfl ⟨rfl, ?_⟩
  exact ((G1.out).setCell (by simp <;> omega) _).setCell (by simp <;> omega) _
set_option maxRecDepth 20000 in
set_option maxHeartbeats 400000 in
theorem sMean_yes (g : Nat) (xs : List (Int × Int)) (P Q C : Int) (w : World) (T : TypeId) (X1 : Hid (w.heap[g]? = some (.cells (flatA xs) T))) (hn : xs.length ≤ 1048576) (hc : lstC xs 1 = 0)
    (hm : ∀ w, Hid (w.heap[g]? = some (.cells (flatA xs) T)) → Calls Try.prog 64 #[sl g xs.length] w fun e w' => e = .returned (.tuple #[fr P Q, .int .i64 C]) ∧ Gr w w') :
    Calls Try.prog 16 #[sl g xs.length] w fun e w' => e = .returned (.tuple #[fr P Q, .int .i64 C]) ∧ Gr w w' := by
  have SL : ∀ w, Hid (w.heap[g]? = some (.cells (flatA xs) T)) → Calls Try.prog 63 #[sl g xs.length, .int .i64 1] w fun e w' => e = .returned (.int .i64 0) ∧ Gr w w' := fun w X => (slist g xs 1 w T X hn (by omega) (by omega)).mono fun e w' ⟨he, hg⟩ => ⟨by rw [he, hc], hg⟩
  have SL := hid SL; have SM := hid hm
  clear hc hm
  go_enter Try.func16, Try.ntmps16
  have _ := ltb X1.out
  go_wp2_with fail
  refine (SL.out _ (hid (((Gr.refl _).al _).keep X1.out))).mono ?_
  rintro e w1 ⟨rfl, hg1⟩
  obtain ⟨x1_0, hz1, g1⟩ := alloc1 hg1
  have x1_1 := g1.keep X1.out
  obtain ⟨_, _⟩ := cells2 x1_0
  have _ := fz x1_0
  have _ := ltb x1_0
  have _ := ltb x1_1
  have X1_0 := hid x1_0; clear x1_0
  have X1_1 := hid x1_1; clear x1_1
  have G1 := hid (g1)
  clear hg1 g1
  go_wp2_with fail
  refine (SM.out _ (hid X1_1.out)).mono ?_
  rintro e w2 ⟨rfl, hg2⟩
  have x2_1 := hg2.keep X1_0.out
  have x2_2 := hg2.keep X1_1.out
  obtain ⟨_, _⟩ := cells2 x2_1
  have _ := fz x2_1
  have _ := ltb x2_1
  have _ := ltb x2_2
  have X2_1 := hid x2_1; clear x2_1
  have X2_2 := hid x2_2; clear x2_2
  have G2 := hid (G1.out.trans hg2)
  clear hg2
  go_wp2
  refine bodyPost_ret (v := .tuple #[fr P Q, .int .i64 C]) (by simp [results, Try.results16, go_sem, *]) rfl ⟨rfl, ?_⟩
  exact ((G2.out).setCell (by simp <;> omega) _).setCell (by simp <;> omega) _
set_option maxRecDepth 20000 in
set_option maxHeartbeats 400000 in
theorem iMeanOf (g n : Nat) (P Q C : Int) (w : World) (h : ∀ w', Gr w w' → Calls Try.prog 65 #[sl g n, .int .i64 1, .func (.func 66) #[] #[]] w' fun e w'' => e = .returned (.tuple #[fr P Q, .int .i64 C]) ∧ Gr w' w'') :
    Calls Try.prog 18 #[sl g n] w fun e w' => e = .returned (.tuple #[fr P Q, .int .i64 C]) ∧ Gr w w' := by
  have H := hid h; clear h
  go_enter Try.func18, Try.ntmps18
  go_wp2_with fail
  refine (H.out _ ((Gr.refl _).al _)).mono ?_
  rintro e w1 ⟨rfl, hg1⟩
  obtain ⟨x1_0, hz1, g1⟩ := alloc1 hg1
  obtain ⟨_, _⟩ := cells2 x1_0
  have _ := fz x1_0
  have _ := ltb x1_0
  have X1_0 := hid x1_0; clear x1_0
  have G1 := hid (g1)
  clear hg1 g1
  go_wp2
  refine bodyPost_ret (v := .tuple #[fr P Q, .int .i64 C]) (by simp [results, Try.results18, go_sem, *]) rfl ⟨rfl, ?_⟩
  exact ((G1.out).setCell (by simp <;> omega) _).setCell (by simp <;> omega) _
theorem told_mean (g : Nat) (xs : List (Int × Int)) (P Q C : Int) (w : World) (k1 k2 : Nat) (T T1 T2 : TypeId) (X1 : Hid (w.heap[k1]? = some (.cells #[.func (.func 66) #[] #[]] T1))) (X2 : Hid (w.heap[k2]? = some (.cells #[sl g xs.length] T2))) (X3 : Hid (w.heap[g]? = some (.cells (flatA xs) T)))
    (hn : xs.length ≤ 1048576) (hc : lstC xs 1 = 0) (hv : smV (mn xs.length (sm xs 0 1)) = .tuple #[fr P Q, .int .i64 C]) :
    Calls Try.prog 133 #[.func (.func 134) #[] #[.pointer (some ⟨k1, 0, none⟩), .pointer (some ⟨k2, 0, none⟩)]] w fun e w' => e = .returned (.tuple #[fr P Q, .int .i64 C]) ∧ Gr w w' := by
  have hall := lst_all hc
  obtain ⟨n1, n2⟩ := lst_len hc
  rw [← hv]
  cases hs : sm xs 0 1 with
  | some r =>
    obtain ⟨A, B⟩ := r
    have hAB := sm_ok xs 0 1 A B ok01 hs
    cases hk : okB (mnP xs.length A B) (mnQ xs.length A B) with
    | true =>
      have e : mn xs.length (some (A, B)) = some (mnP xs.length A B, mnQ xs.length A B) := if_pos hk
      rw [e]
      exact told_ok_F 134 _ _ _ w (fun _ => by kernel_rfl) fun w' hg' => clist_ok 66 g xs.length _ _ w' k1 k2 T1 T2 (hid (hg'.keep X1.out)) (hid (hg'.keep X2.out)) (fun _ => by kernel_rfl) fun w'' hg'' => imeanF_ok g xs.length _ _ w'' fun w3 hg3 => imeanBy_ok g xs A B _ _ w3 T (hid (((hg'.trans hg'').trans hg3).keep X3.out)) n1 n2 (fun w g T X => isum_ok g xs A B w T X hn hall hs) fun w => mover_t A B _ 1 w hAB (ok_count n1 n2) (by omega) hk
    | false =>
      have e : mn xs.length (some (A, B)) = none := if_neg (by rw [hk]; decide)
      rw [e]
      exact told_great_F 134 _ w (fun _ => by kernel_rfl) fun w' hg' => clist_bad 66 g xs.length w' k1 k2 T1 T2 (hid (hg'.keep X1.out)) (hid (hg'.keep X2.out)) (fun _ => by kernel_rfl) fun w'' hg'' => imeanF_bad g xs.length w'' fun w3 hg3 => imeanBy_b2 g xs A B w3 T (hid (((hg'.trans hg'').trans hg3).keep X3.out)) n1 n2 (fun w g T X => isum_ok g xs A B w T X hn hall hs) fun w => mover_f A B _ 1 w hAB (ok_count n1 n2) (by omega) hk
  | none =>
    exact told_great_F 134 _ w (fun _ => by kernel_rfl) fun w' hg' => clist_bad 66 g xs.length w' k1 k2 T1 T2 (hid (hg'.keep X1.out)) (hid (hg'.keep X2.out)) (fun _ => by kernel_rfl) fun w'' hg'' => imeanF_bad g xs.length w'' fun w3 hg3 => imeanBy_b1 g xs w3 T (hid (((hg'.trans hg'').trans hg3).keep X3.out)) n2 fun w g T X => isum_bad g xs w T X hn hall hs
theorem sMean_any (g : Nat) (xs : List (Int × Int)) (P Q C : Int) (w : World) (T : TypeId) (X1 : Hid (w.heap[g]? = some (.cells (flatA xs) T))) (hn : xs.length ≤ 1048576) (hc : lstC xs 1 = 0) (hv : smV (mn xs.length (sm xs 0 1)) = .tuple #[fr P Q, .int .i64 C]) :
    Calls Try.prog 64 #[sl g xs.length] w fun e w' => e = .returned (.tuple #[fr P Q, .int .i64 C]) ∧ Gr w w' := by
  have hall := lst_all hc
  obtain ⟨n1, n2⟩ := lst_len hc
  have SM : ∀ w, Hid (w.heap[g]? = some (.cells (flatA xs) T)) → Calls Try.prog 88 #[sl g xs.length] w fun e w' => e = .returned (smV (sm xs 0 1)) ∧ Gr w w' := fun w X => ssum g xs w T X hn hall
  rw [← hv]
  cases hs : sm xs 0 1 with
  | some r =>
    obtain ⟨A, B⟩ := r
    rw [hs] at SM
    have hAB := sm_ok xs 0 1 A B ok01 hs
    cases hk : okB (mnP xs.length A B) (mnQ xs.length A B) with
    | true =>
      have e : mn xs.length (some (A, B)) = some (mnP xs.length A B, mnQ xs.length A B) := if_pos hk
      rw [e]
      exact smean_1 g xs.length A B _ _ 0 w T _ X1 SM fun w => mdiv_t A B _ 1 w hAB (ok_count n1 n2) (by omega) hk
    | false =>
      have e : mn xs.length (some (A, B)) = none := if_neg (by rw [hk]; decide)
      rw [e]
      exact smean_1 g xs.length A B _ _ 3 w T _ X1 SM fun w => mdiv_f A B _ 1 w hAB (ok_count n1 n2) (by omega) hk
  | none =>
    rw [hs] at SM
    exact smean_0 g xs w T X1 SM
theorem bothMeanOf (xs : List (Int × Int)) (hn : xs.length ≤ 1048576) : ∃ P Q C : Int,
    (∀ (w : World) (g : Nat) (T : TypeId), Hid (w.heap[g]? = some (.cells (flatA xs) T)) → Calls Try.prog 16 #[sl g xs.length] w fun e w' => e = .returned (.tuple #[fr P Q, .int .i64 C]) ∧ Gr w w') ∧
    (∀ (w : World) (g : Nat) (T : TypeId), Hid (w.heap[g]? = some (.cells (flatA xs) T)) → Calls Try.prog 18 #[sl g xs.length] w fun e w' => e = .returned (.tuple #[fr P Q, .int .i64 C]) ∧ Gr w w') := by
  by_cases hc : lstC xs 1 = 0
  · obtain ⟨P, Q, C, hv⟩ := smV_form (mn xs.length (sm xs 0 1))
    exact ⟨P, Q, C, fun w g T X => sMean_yes g xs P Q C w T X hn hc fun w X => sMean_any g xs P Q C w T X hn hc hv, fun w g T X => iMeanOf g xs.length P Q C w fun w' hg => olist_yes 66 g xs 1 P Q C w' T (hid (hg.keep X.out)) hn (by omega) (by omega) hc fun w k1 k2 T1 T2 X1 X2 X3 => told_mean g xs P Q C w k1 k2 T T1 T2 X1 X2 X3 hn hc hv⟩
  · exact ⟨0, 0, _, fun w g T X => sMean_no g xs _ w T X hn rfl hc, fun w g T X => iMeanOf g xs.length 0 0 _ w fun w' hg => olist_no 66 g xs 1 _ w' T (hid (hg.keep X.out)) hn (by omega) (by omega) rfl hc⟩
end Go.Proofs.Ytmjcnagniphkeaa
