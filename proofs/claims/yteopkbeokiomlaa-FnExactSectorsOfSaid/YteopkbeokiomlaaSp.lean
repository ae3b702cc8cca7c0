/- WALKS: SectorsOf, of the reference; both. -/
import Derived.Test.YteopkbeokiomlaaSo
namespace Go.Proofs.Yteopkbeokiomlaa
open Go.RowKit Go.Sort

theorem secB_div (n : Int) : (inB n 2 72 && ((1296000 : Int) % n == 0)) = (decide (2 ≤ n) && divB n) := by
  unfold inB divB
  by_cases h1 : 2 ≤ n
  · have h2 : 1 ≤ n := by omega
    simp [h1, h2]
  · simp [h1]
theorem own_made1 (w : World) (o : Obj) (E : TypeId) (size base : Nat) (hb : base ≤ w.heap.size + 1) : ((w.alloc o).alloc (.cells #[] E)).ownsRow base E size (.slice (some ⟨w.heap.size + 1, 0, none⟩) 0 0) 0 [] := by
  have e : (w.alloc o).heap.size = w.heap.size + 1 := by simp
  have h := World.ownsRow_made (e := E) (size := size) (base := base) (w.alloc o) #[] 0 (by rw [e]; exact hb) (by simp [maxLen]) (by simp)
  rwa [e] at h
theorem tmod_emod (n : Int) : (1296000 : Int).tmod n = (1296000 : Int) % n := by rw [Int.tmod_eq_emod]; simp
set_option maxRecDepth 20000 in
set_option maxHeartbeats 1000000 in
theorem sSect_1 (A : Option Addr) (c : Nat) (xs : List Int) (e no n l : Int) (w : World) (X : Hid (RdH w A xs)) (hn : xs.length ≤ 1048576) (hh : xs.all okH = true) (hd : dkB xs e no = false) :
    Calls Try.prog 32 #[dk A xs.length c e no, .int .i64 n, .int .i64 l] w fun x w' => GivesI w w' x [] 1 := by
  have HA := hid fun (w' : World) (b : Nat) (T : TypeId) (XB : Hid (w'.heap[b]? = some (.cells #[.slice A xs.length c, .int .i64 e, .int .i64 no] T))) (hg : Gr w w') => sDkOk b T A c xs e no w' XB (hid (X.out.keep hg)) hn hh
  rw [hd] at HA
  clear hh hd
  go_enter Try.func32, Try.ntmps32
  go_wp2_with fail
  refine (HA.out _ _ _ (hid (alloc1 (Gr.refl _)).1) ((Gr.refl w).al _)).mono ?_
  rintro x w1 ⟨rfl, rfl⟩
  go_wp2_with fail
  go_ret2
  exact ⟨_, _, rfl, own_made1 w _ _ 1 _ (Nat.le_succ _), ((Gr.refl w).al _).al _⟩
set_option maxRecDepth 20000 in
set_option maxHeartbeats 1000000 in
theorem sSect_2 (A : Option Addr) (c : Nat) (xs : List Int) (e no n l : Int) (w : World) (X : Hid (RdH w A xs)) (hn : xs.length ≤ 1048576) (hh : xs.all okH = true) (hd : dkB xs e no = true) (h : (inB l 1 3600 && (decide (2 ≤ n) && divB n)) = false) :
    Calls Try.prog 32 #[dk A xs.length c e no, .int .i64 n, .int .i64 l] w fun x w' => GivesI w w' x [] 2 := by
  have HA := hid fun (w' : World) (b : Nat) (T : TypeId) (XB : Hid (w'.heap[b]? = some (.cells #[.slice A xs.length c, .int .i64 e, .int .i64 no] T))) (hg : Gr w w') => sDkOk b T A c xs e no w' XB (hid (X.out.keep hg)) hn hh
  rw [hd] at HA
  clear hh hd
  rw [← secB_div] at h
  cases hl : inB l 1 3600 with
  | false =>
    clear h
    go_enter Try.func32, Try.ntmps32
    go_wp2_with fail
    refine (HA.out _ _ _ (hid (alloc1 (Gr.refl _)).1) ((Gr.refl w).al _)).mono ?_
    rintro x w1 ⟨rfl, rfl⟩
    go_wp2_with (go_at_call 69; refine (in_any _ _ _ _).mono ?_; rintro x w2 ⟨rfl, rfl⟩; rw [hl])
    go_ret2
    exact ⟨_, _, rfl, own_made1 w _ _ 1 _ (Nat.le_succ _), ((Gr.refl w).al _).al _⟩
  | true =>
    cases hm : inB n 2 72 with
    | false =>
      clear h
      go_enter Try.func32, Try.ntmps32
      go_wp2_with fail
      refine (HA.out _ _ _ (hid (alloc1 (Gr.refl _)).1) ((Gr.refl w).al _)).mono ?_
      rintro x w1 ⟨rfl, rfl⟩
      go_wp2_with (go_at_call 69; refine (in_any _ _ _ _).mono ?_; rintro x w2 ⟨rfl, rfl⟩; first | rw [hl] | rw [hm])
      go_ret2
      exact ⟨_, _, rfl, own_made1 w _ _ 1 _ (Nat.le_succ _), ((Gr.refl w).al _).al _⟩
    | true =>
      have hz : ((1296000 : Int) % n == 0) = false := by simpa [hl, hm] using h
      have hz2 : ((1296000 : Int) % n != 0) = true := by simpa using hz
      have hb : 2 ≤ n ∧ n ≤ 72 := by unfold inB at hm; simp at hm; omega
      obtain ⟨_, _⟩ := hb
      clear h
      go_enter Try.func32, Try.ntmps32
      go_wp2_with fail
      refine (HA.out _ _ _ (hid (alloc1 (Gr.refl _)).1) ((Gr.refl w).al _)).mono ?_
      rintro x w1 ⟨rfl, rfl⟩
      go_wp2_with (go_at_call 69; refine (in_any _ _ _ _).mono ?_; rintro x w2 ⟨rfl, rfl⟩; first | rw [hl] | rw [hm])
      go_ret2
      exact ⟨_, _, rfl, own_made1 w _ _ 1 _ (Nat.le_succ _), ((Gr.refl w).al _).al _⟩
set_option maxRecDepth 20000 in
set_option maxHeartbeats 2000000 in
theorem sSect_yes (A : Option Addr) (c : Nat) (xs : List Int) (e no l : Int) (n : Nat) (w : World) (X : Hid (RdH w A xs)) (hn : xs.length ≤ 1048576) (hh : xs.all okH = true) (hd : dkB xs e no = true) (hR : Rding xs e no l) (n1 : 2 ≤ n) (hv : divB (n : Int) = true) :
    Calls Try.prog 32 #[dk A xs.length c e no, .int .i64 (n : Int), .int .i64 l] w fun x w' => GivesI w w' x (scts (headF xs e no l) n) 0 := by
  have HA := hid fun (w' : World) (b : Nat) (T : TypeId) (XB : Hid (w'.heap[b]? = some (.cells #[.slice A xs.length c, .int .i64 e, .int .i64 no] T))) (hg : Gr w w') => sDkOk b T A c xs e no w' XB (hid (X.out.keep hg)) hn hh
  have HH := hid fun (a : Int) (w' : World) (b : Nat) (T : TypeId) (a1 : 0 ≤ a) (a2 : a < 1296000) (XB : Hid (w'.heap[b]? = some (.cells #[.slice A xs.length c, .int .i64 e, .int .i64 no] T))) (hg : Gr w w') => sHeadF b T A c xs e no a l w' XB (hid (X.out.keep hg)) hR a1 a2
  have HHB := hid fun a => headF_bd (xs := xs) (e := e) (no := no) (l := l) (a := a)
  have hl : inB l 1 3600 = true := by have := hR.l1; have := hR.l2; unfold inB; simp; omega
  have n2 := (sct_bd n1 hv (show 0 < n by omega)).1
  have hm : inB (n : Int) 2 72 = true := by unfold inB; simp; omega
  have hz : ((1296000 : Int) % (n : Int) == 0) = true := by
    have := secB_div (n : Int)
    rw [hm, hv] at this
    have e2 : decide ((2 : Int) ≤ (n : Int)) = true := by simp; omega
    rw [e2] at this
    simpa using this
  have hz2 : ((1296000 : Int) % (n : Int) != 0) = false := by simpa using hz
  have HV := hid hv
  generalize headF xs e no l = H at *
  rw [hd] at HA
  clear hh hd hR hv
  obtain ⟨i0, hi, iz0, iz1, iz2⟩ : ∃ i, Try.prog.info? 2 = some i ∧ i.zero = some (.int .i64 0) ∧ i.size = 1 ∧ i.bytes = 8 := ⟨_, rfl, rfl, rfl, rfl⟩
  go_enter Try.func32, Try.ntmps32
  go_wp2_with fail
  refine (HA.out _ _ _ (hid (alloc1 (Gr.refl _)).1) ((Gr.refl w).al _)).mono ?_
  rintro x w1 ⟨rfl, rfl⟩
  go_wp2_with (go_at_call 69; refine (in_any _ _ _ _).mono ?_; rintro x w2 ⟨rfl, rfl⟩; first | rw [hl] | rw [hm])
  clear hz hz2
  go_loopw [8, 9] (fun v u wr => ∃ (k : Nat) (A' : Option Addr) (c' : Nat), u = .int .i64 (k : Int) ∧ v = .slice A' k c' ∧ k ≤ n ∧ Gr w wr ∧ wr.heap[w.heap.size]? = some (.cells #[.slice A xs.length c, .int .i64 e, .int .i64 no] 59) ∧ wr.ownsRow (w.heap.size + 1) 2 1 (.slice A' k c') k (((scts H n).take k).map (.int .i64 ·))) (fun _ u _ => n - (intOf u).toNat)
  case atStart => exact ⟨0, _, _, rfl, rfl, by omega, ((Gr.refl _).al _).al _, ((Gr.refl _).al _).keep (alloc1 (Gr.refl _)).1, own_made1 w _ _ 1 _ (Nat.le_refl _)⟩
  case round =>
    obtain ⟨k, A', c', rfl, rfl, hk, hg, hx, hown⟩ := hrel
    have HG := hid hg; have Y := hid hx; have OWN := hid hown
    clear hg hx hown
    by_cases hlt : k < n
    · obtain ⟨_, S, hS, s1, s2, k1, k2⟩ := sct_bd n1 HV.out hlt
      obtain ⟨h1, h2⟩ := HHB.out ((k : Int) * S)
      obtain ⟨h3, h4⟩ := HHB.out (wrapI ((k : Int) * S + S))
      obtain ⟨o1, o2⟩ := wrap_bd ((k : Int) * S + S)
      have hks : ((k : Int) + 1) * S = (k : Int) * S + S := by rw [Int.add_mul, Int.one_mul]
      have hsct : sctAt H n k = sctR H ((k : Int) * S) S := by unfold sctAt; rw [hS]
      have HST := hid hsct
      clear hsct
      go_wp2_with fail
      refine (HH.out ((k : Int) * S) _ _ _ k1 (by omega) (hid Y.out) HG.out).mono ?_
      rintro x w2 ⟨rfl, hg2⟩
      have G2 := hid (HG.out.trans hg2); have Y2 := hid (hg2.keep Y.out); have OWN2 := hid (own_gr OWN.out hg2)
      clear hg2 OWN
      go_wp2_with (first | (go_at_call 86; refine (swrap _ _ (by omega) (by omega)).mono ?_; rintro x w3 ⟨rfl, rfl⟩))
      refine (HH.out (wrapI ((k : Int) * S + S)) _ _ _ o1 o2 (hid Y2.out) G2.out).mono ?_
      rintro x w3 ⟨rfl, hg3⟩
      have G3 := hid (G2.out.trans hg3); have Y3 := hid (hg3.keep Y2.out); have OWN3 := hid (own_gr OWN2.out hg3)
      have hsz := Nat.succ_le_of_lt (ltb Y3.out)
      clear hg3 OWN2
      obtain ⟨t1, t2⟩ := turn_bd (H ((k : Int) * S)) (H (wrapI ((k : Int) * S + S)))
      by_cases ht : turnI (H ((k : Int) * S)) (H (wrapI ((k : Int) * S + S))) ≤ 0
      · skip
        have e0 : sctR H ((k : Int) * S) S = turnI (H ((k : Int) * S)) (H (wrapI ((k : Int) * S + S))) + 1296000 := if_pos ht
        rw [e0] at HST
        clear e0
        have OWN4 := hid (own_gr OWN3.out ((Gr.refl _).al (.cells #[.int .i64 (turnI (H ((k : Int) * S)) (H (wrapI ((k : Int) * S + S))) + 1296000)] 2)))
        have NEW := hid (one_news (w := w3.alloc (.cells #[.int .i64 (turnI (H ((k : Int) * S)) (H (wrapI ((k : Int) * S + S))) + 1296000)] 2)) (b := w3.heap.size) (alloc1 (Gr.refl _)).1)
        have G4 := hid (G3.out.al (.cells #[.int .i64 (turnI (H ((k : Int) * S)) (H (wrapI ((k : Int) * S + S))) + 1296000)] 2))
        have Y4 := hid (((Gr.refl w3).al (.cells #[.int .i64 (turnI (H ((k : Int) * S)) (H (wrapI ((k : Int) * S + S))) + 1296000)] 2)).keep Y3.out)
        have hz4 : w.heap.size + 1 ≤ (w3.alloc (.cells #[.int .i64 (turnI (H ((k : Int) * S)) (H (wrapI ((k : Int) * S + S))) + 1296000)] 2)).heap.size := by simp; omega
        have Z4 := hid hz4
        clear OWN3 G3 Y3 hz4
        go_wp2_with (first | (at_builtin; refine (wpList_append_gr rfl _ _ 56 rfl (w.heap.size + 1) 2 i0 (.int .i64 0) 1 8 Try.underlying56 hi iz0 iz1 iz2 rfl (by decide) _ k _ rfl OWN4.out ⟨w3.heap.size, 0, none⟩ 1 1 [.int .i64 (turnI (H ((k : Int) * S)) (H (wrapI ((k : Int) * S + S))) + 1296000)] rfl rfl NEW.out (by simp [Value.oneCell']) (by decide) (by unfold maxLen; omega) (by omega) Z4.out ?_)) | (go_at_call 87; refine (sturn _ _ _ (by omega) (by omega) (by omega) (by omega)).mono ?_; rintro x w4 ⟨rfl, rfl⟩))
        intro v' w4 own4 hgb _ hgr
        obtain ⟨A2, c2, rfl⟩ := own_form own4
        have e2 : ((scts H n).map (Value.int .i64 ·)).take k ++ [.int .i64 (turnI (H ((k : Int) * S)) (H (wrapI ((k : Int) * S + S))) + 1296000)] = ((scts H n).take (k + 1)).map (Value.int .i64 ·) := by rw [scts_take H hlt, HST.out]; simp [List.map_take]
        rw [e2] at own4
        have OWN5 := hid own4
        have G5 := hid (hgr w G4.out (by omega))
        have Y5 := hid ((hgb.block w.heap.size (ltb Y4.out) (row_ne_low OWN4.out (by omega))).trans Y4.out)
        clear own4 hgr hgb e2 OWN4 NEW
        go_wp2_with fail
        exact ⟨⟨k + 1, A2, c2, by simp, by simp, by omega, G5.out, Y5.out, OWN5.out⟩, by simp [intOf]; omega⟩
      · skip
        have e0 : sctR H ((k : Int) * S) S = turnI (H ((k : Int) * S)) (H (wrapI ((k : Int) * S + S))) := if_neg ht
        rw [e0] at HST
        clear e0
        have OWN4 := hid (own_gr OWN3.out ((Gr.refl _).al (.cells #[.int .i64 (turnI (H ((k : Int) * S)) (H (wrapI ((k : Int) * S + S))))] 2)))
        have NEW := hid (one_news (w := w3.alloc (.cells #[.int .i64 (turnI (H ((k : Int) * S)) (H (wrapI ((k : Int) * S + S))))] 2)) (b := w3.heap.size) (alloc1 (Gr.refl _)).1)
        have G4 := hid (G3.out.al (.cells #[.int .i64 (turnI (H ((k : Int) * S)) (H (wrapI ((k : Int) * S + S))))] 2))
        have Y4 := hid (((Gr.refl w3).al (.cells #[.int .i64 (turnI (H ((k : Int) * S)) (H (wrapI ((k : Int) * S + S))))] 2)).keep Y3.out)
        have hz4 : w.heap.size + 1 ≤ (w3.alloc (.cells #[.int .i64 (turnI (H ((k : Int) * S)) (H (wrapI ((k : Int) * S + S))))] 2)).heap.size := by simp; omega
        have Z4 := hid hz4
        clear OWN3 G3 Y3 hz4
        go_wp2_with (first | (at_builtin; refine (wpList_append_gr rfl _ _ 56 rfl (w.heap.size + 1) 2 i0 (.int .i64 0) 1 8 Try.underlying56 hi iz0 iz1 iz2 rfl (by decide) _ k _ rfl OWN4.out ⟨w3.heap.size, 0, none⟩ 1 1 [.int .i64 (turnI (H ((k : Int) * S)) (H (wrapI ((k : Int) * S + S))))] rfl rfl NEW.out (by simp [Value.oneCell']) (by decide) (by unfold maxLen; omega) (by omega) Z4.out ?_)) | (go_at_call 87; refine (sturn _ _ _ (by omega) (by omega) (by omega) (by omega)).mono ?_; rintro x w4 ⟨rfl, rfl⟩))
        intro v' w4 own4 hgb _ hgr
        obtain ⟨A2, c2, rfl⟩ := own_form own4
        have e2 : ((scts H n).map (Value.int .i64 ·)).take k ++ [.int .i64 (turnI (H ((k : Int) * S)) (H (wrapI ((k : Int) * S + S))))] = ((scts H n).take (k + 1)).map (Value.int .i64 ·) := by rw [scts_take H hlt, HST.out]; simp [List.map_take]
        rw [e2] at own4
        have OWN5 := hid own4
        have G5 := hid (hgr w G4.out (by omega))
        have Y5 := hid ((hgb.block w.heap.size (ltb Y4.out) (row_ne_low OWN4.out (by omega))).trans Y4.out)
        clear own4 hgr hgb e2 OWN4 NEW
        go_wp2_with fail
        exact ⟨⟨k + 1, A2, c2, by simp, by simp, by omega, G5.out, Y5.out, OWN5.out⟩, by simp [intOf]; omega⟩
    · have hke : k = n := by omega
      subst hke
      go_wp2_with fail
      go_ret2
      have h := OWN.out
      have e3 : (scts H k).take k = scts H k := by rw [List.take_of_length_le (by rw [scts_len]; exact Nat.le_refl _)]
      rw [e3] at h
      rw [← scts_len H k] at h
      refine ⟨A', c', ?_, own_base (by rw [scts_len] at h ⊢; exact h) (by omega), HG.out⟩
      rw [scts_len]
      rfl
theorem bothSectorsOf (xs : List Int) (e no n l : Int) (hn : xs.length ≤ 1048576) (hh : xs.all okH = true) : ∃ (ys : List Int) (C : Int), ys.length ≤ 1048576 ∧
    (∀ (A : Option Addr) (c : Nat) (w : World), xs.length ≤ c → Hid (RdH w A xs) → Calls Try.prog 32 #[dk A xs.length c e no, .int .i64 n, .int .i64 l] w fun x w' => GivesI w w' x ys C) ∧
    (∀ (A : Option Addr) (c : Nat) (w : World), xs.length ≤ c → Hid (RdH w A xs) → Calls Try.prog 34 #[dk A xs.length c e no, .int .i64 n, .int .i64 l] w fun x w' => GivesI w w' x ys C) := by
  cases hd : dkB xs e no with
  | false =>
    have hC : codeR xs e no l [] = 1 := by unfold codeR; rw [hd]; rfl
    exact ⟨[], 1, by simp, fun A c w _ X => sSect_1 A c xs e no n l w X hn hh hd, fun A c w _ X => iSect_no A c xs e no n l 1 w X hn hh hC (by decide)⟩
  | true =>
    cases hl : inB l 1 3600 with
    | false =>
      have hC : codeR xs e no l [] = 2 := by unfold codeR; rw [hd, hl]; rfl
      exact ⟨[], 2, by simp, fun A c w _ X => sSect_2 A c xs e no n l w X hn hh hd (by rw [hl]; rfl), fun A c w _ X => iSect_no A c xs e no n l 2 w X hn hh hC (by decide)⟩
    | true =>
      have hC : codeR xs e no l [] = 0 := by unfold codeR; rw [hd, hl]; rfl
      cases hs : (decide (2 ≤ n) && divB n) with
      | false => exact ⟨[], 2, by simp, fun A c w _ X => sSect_2 A c xs e no n l w X hn hh hd (by rw [hl, hs]; rfl), fun A c w _ X => iSect_many A c xs e no n l w X hn hh hC hs⟩
      | true =>
        obtain ⟨hs1, hs2⟩ := Bool.and_eq_true_iff.1 hs
        have hs1 : 2 ≤ n := by simpa using hs1
        obtain ⟨m, rfl⟩ : ∃ m : Nat, n = (m : Int) := ⟨n.toNat, by omega⟩
        have hm := (sct_bd (n := m) (k := 0) (by omega) hs2 (by omega)).1
        exact ⟨scts (headF xs e no l) m, 0, by rw [scts_len]; omega, fun A c w _ X => sSect_yes A c xs e no l m w X hn hh hd (codeR_zero hC).1 (by omega) hs2, fun A c w hc X => iSect_yes A c xs e no l m w X hn hh hc hC (by omega) hs2⟩
end Go.Proofs.Yteopkbeokiomlaa
