/- WALKS: MeanOf, of the program and of the reference. -/
import Derived.Test.YtpadjkgbeijkpaaFu
namespace Go.Proofs.Ytpadjkgbeijkpaa
open Go.RowKit Go.Sort

theorem setk_old {w : World} {g j i1 i2 : Nat} {a b : Value} {o : Obj} (h : w.heap[j]? = some o) (hn : j ≠ g) :
    ((w.setCell ⟨g, i1, none⟩ a).setCell ⟨g, i2, none⟩ b).heap[j]? = some o := by
  rw [Below.heap_setCell _ _ _ _ hn, Below.heap_setCell _ _ _ _ hn, h]
theorem ok_count {n : Int} (h1 : 1 ≤ n) (h2 : n ≤ 64) : okB n 1 = true := by
  rw [okB_iff]
  unfold Ok
  refine ⟨by omega, by omega, by omega, by omega, ?_⟩
  simp
theorem sm_ok : ∀ (xs : List (Int × Int)) (P Q A B : Int), okB P Q = true → sm xs P Q = some (A, B) → okB A B = true
  | [], P, Q, A, B, h, hs => by
    have hs' : (P, Q) = (A, B) := Option.some.inj hs
    have e1 : P = A := congrArg Prod.fst hs'
    have e2 : Q = B := congrArg Prod.snd hs'
    subst e1 e2; exact h
  | (p, q) :: r, P, Q, A, B, h, hs => by
    unfold sm at hs
    by_cases hb : okB (redP (P*q+p*Q) (Q*q)) (redQ (P*q+p*Q) (Q*q)) = true
    · rw [if_pos hb] at hs; exact sm_ok r _ _ A B hb hs
    · rw [if_neg hb] at hs; cases hs
theorem lst_len {xs : List (Int × Int)} (h : lstC xs 1 = 0) : 1 ≤ (xs.length : Int) ∧ (xs.length : Int) ≤ 64 := by
  have ha := lst_all h
  unfold lstC at h
  rw [if_pos ha] at h
  by_cases h1 : 64 < (xs.length : Int) ∨ (xs.length : Int) < 1
  · rw [if_pos h1] at h; cases h
  · omega
theorem mover_t (a b c d : Int) (w : World) (h1 : okB a b = true) (h2 : okB c d = true) (hz : c ≠ 0) (hk : okB (redP (a*d) (b*c)) (redQ (a*d) (b*c)) = true) :
    Calls Try.prog 183 #[fr a b, fr c d] w fun e w' => e = .returned (fr (redP (a*d) (b*c)) (redQ (a*d) (b*c))) ∧ Gr w w' := by
  obtain ⟨b1, b2, b3, b4⟩ := okB_bd h1
  obtain ⟨d1, d2, d3, d4⟩ := okB_bd h2
  exact over_ok a b c d w b1 b2 b3 b4 d1 d2 d3 d4 hz hk
theorem mover_f (a b c d : Int) (w : World) (h1 : okB a b = true) (h2 : okB c d = true) (hz : c ≠ 0) (hk : okB (redP (a*d) (b*c)) (redQ (a*d) (b*c)) = false) :
    Calls Try.prog 183 #[fr a b, fr c d] w fun e w' => (∃ x y, e = .panicked [{ v := .iface 183 (fr x y), recovered := false }]) ∧ Gr w w' := by
  obtain ⟨b1, b2, b3, b4⟩ := okB_bd h1
  obtain ⟨d1, d2, d3, d4⟩ := okB_bd h2
  exact over_bad a b c d w b1 b2 b3 b4 d1 d2 d3 d4 hz hk
/-- The mean, from the sum, of so many. -/
def meP (n A B : Int) : Int := redP (A * 1) (B * n)
def meQ (n A B : Int) : Int := redQ (A * 1) (B * n)
def mn (n : Int) : Option (Int × Int) → Option (Int × Int)
  | some (A, B) => if okB (meP n A B) (meQ n A B) then some (meP n A B, meQ n A B) else none
  | none => none

set_option maxRecDepth 20000 in
set_option maxHeartbeats 400000 in
theorem imean_id (p q : Int) (w : World) :
    Calls Try.prog 179 #[fr p q] w fun e w' => e = .returned (fr p q) ∧ Gr w w' := by
  go_enter Try.func179, Try.ntmps179
  go_wp2
  refine bodyPost_ret (v := fr p q) (by simp [results, Try.results179, go_sem, *]) rfl ⟨rfl, ?_⟩
  exact (((Gr.refl _)).al _).al _
set_option maxRecDepth 20000 in
set_option maxHeartbeats 1000000 in
/-- impl.valuesBy: how the values are gathered -/
theorem ivalues (g : Nat) (xs : List (Int × Int)) (w : World) (T : TypeId) (X1 : Hid (w.heap[g]? = some (.cells (flatA xs) T))) (hn : (xs.length : Int) ≤ 64) :
    Calls Try.prog 182 #[sl g xs.length, .func (.func 179) #[] #[]] w fun e w' => ∃ g', e = .returned (sl g' xs.length) ∧ w'.heap[g']? = some (.cells (flatA xs) 33) ∧ w.heap.size ≤ g' ∧ Gr w w' := by
  have hmk := make_fracs xs.length (by omega)
  go_enter Try.func182, Try.ntmps182
  go_wp2_with fail
  go_loopw [13] (fun u wr => ∃ (k : Nat), u = .int .i64 (k : Int) ∧ k ≤ xs.length ∧ Gr w wr ∧ wr.heap[g]? = some (.cells (flatA xs) T) ∧ wr.heap[w.heap.size]? = some (.cells (flatA (xs.take k ++ List.replicate (xs.length - k) (0, 0))) 33)) (fun u _ => xs.length - (intOf u).toNat)
  case atStart =>
    refine ⟨0, rfl, by omega, (Gr.refl _).al _, ((Gr.refl _).al _).keep X1.out, ?_⟩
    have h := (alloc1 (Gr.refl (w.alloc (.cells (flatA (List.replicate xs.length (0, 0))) 33)))).1
    simpa using h
  case round =>
    obtain ⟨k, rfl, hk, g0, y1, y3⟩ := hrel
    have hgl : g < w.heap.size := ltb X1.out
    have GW := hid g0; have Y1 := hid y1; have Y3 := hid y3
    clear g0 y1 y3 hmk
    by_cases hlt : k < xs.length
    · obtain ⟨⟨p, q⟩, hpq⟩ : ∃ pq, xs[k]? = some pq := ⟨xs[k], List.getElem?_eq_getElem _⟩
      obtain ⟨_, _⟩ := flat_cells Y1.out hpq
      have HP := hid hpq; clear hpq
      have _ := ltb Y3.out
      have _ := ltb Y1.out
      go_wp2_with fail
      refine (imean_id _ _ _).mono ?_
      rintro e w6 ⟨rfl, hg6⟩
      obtain ⟨x6_0, hz6, g6⟩ := alloc1 hg6
      have x6_1 := g6.keep Y3.out
      have x6_2 := g6.keep Y1.out
      have _ := ltb x6_1
      have _ := ltb x6_2
      obtain ⟨_, _⟩ := cells2 x6_0
      have _ := fz x6_0
      have _ := ltb x6_0
      have X6_1 := hid x6_1; clear x6_1
      have X6_2 := hid x6_2; clear x6_2
      have X6_0 := hid x6_0; clear x6_0
      have G6 := hid (GW.out.trans g6)
      clear hg6 g6
      have f1 := fz X6_1.out
      obtain ⟨c1, c2⟩ := flat_cells X6_1.out (take_get hlt)
      go_wp2_with fail
      refine ⟨⟨k + 1, by simp, by omega, (G6.out.setCell (by simp) _).setCell (by simp) _, setk_old X6_2.out (by omega), ?_⟩, by simp [intOf]; omega⟩
      have h := flat_store (k := k) p q X6_1.out
      rw [take_step HP.out] at h
      exact h
    · have hke : k = xs.length := by omega
      have Y3 : Hid (wr.heap[w.heap.size]? = some (.cells (flatA xs) 33)) := hid (by
        have h := Y3.out
        rw [hke] at h
        simpa using h)
      clear hke
      go_wp2_with fail
      go_ret
      exact ⟨w.heap.size, rfl, Y3.out, Nat.le_refl _, GW.out⟩
set_option maxRecDepth 20000 in
set_option maxHeartbeats 1000000 in
/-- impl.meanBy: the sum of the values over the count -/
theorem imeanBy_ok (g : Nat) (xs : List (Int × Int)) (A B P Q : Int) (w : World) (T : TypeId) (X1 : Hid (w.heap[g]? = some (.cells (flatA xs) T))) (hn1 : 1 ≤ (xs.length : Int)) (hn : (xs.length : Int) ≤ 64)
    (hs : ∀ (w : World) (g : Nat) (T : TypeId), Hid (w.heap[g]? = some (.cells (flatA xs) T)) → Calls Try.prog 88 #[sl g xs.length] w fun e w' => e = .returned (fr A B) ∧ Gr w w')
    (hd : ∀ w, Calls Try.prog 183 #[fr A B, fr (xs.length : Int) 1] w fun e w' => e = .returned (fr P Q) ∧ Gr w w') :
    Calls Try.prog 178 #[sl g xs.length, .func (.func 179) #[] #[]] w fun e w' => e = .returned (fr P Q) ∧ Gr w w' := by
  have HS := hid hs; have HD := hid hd; clear hs hd
  have hf := hid (fits_of (ok_count hn1 hn))
  go_enter Try.func178, Try.ntmps178
  have _ := ltb X1.out
  go_wp2_with fail
  refine (ivalues g xs _ T (hid (((Gr.refl _).al _).keep X1.out)) hn).mono ?_
  rintro e w1 ⟨g1_, rfl, xb1, _, hg1⟩
  obtain ⟨x1_0, hz1, g1⟩ := alloc1 hg1
  have x1_1 := g1.keep X1.out
  obtain ⟨_, _⟩ := cells2 x1_0
  have _ := fz x1_0
  have _ := ltb x1_0
  have _ := ltb x1_1
  have _ := ltb xb1
  have X1_0 := hid x1_0; clear x1_0
  have X1_1 := hid x1_1; clear x1_1
  have Xb1 := hid xb1; clear xb1
  have G1 := hid (g1)
  clear hg1 g1
  go_wp2_with fail
  refine (HS.out _ _ _ (hid Xb1.out)).mono ?_
  rintro e w2 ⟨rfl, hg2⟩
  have x2_1 := hg2.keep X1_0.out
  have x2_2 := hg2.keep X1_1.out
  have x2_3 := hg2.keep Xb1.out
  obtain ⟨_, _⟩ := cells2 x2_1
  have _ := fz x2_1
  have _ := ltb x2_1
  have _ := ltb x2_2
  have _ := ltb x2_3
  have X2_1 := hid x2_1; clear x2_1
  have X2_2 := hid x2_2; clear x2_2
  have X2_3 := hid x2_3; clear x2_3
  have G2 := hid (G1.out.trans hg2)
  clear hg2
  go_wp2_with fail
  refine (fit_ok _ _ _ hf.out.1 hf.out.2).mono ?_
  rintro e w3 ⟨rfl, hg3⟩
  have x3_1 := hg3.keep X2_1.out
  have x3_2 := hg3.keep X2_2.out
  have x3_3 := hg3.keep X2_3.out
  obtain ⟨_, _⟩ := cells2 x3_1
  have _ := fz x3_1
  have _ := ltb x3_1
  have _ := ltb x3_2
  have _ := ltb x3_3
  have X3_1 := hid x3_1; clear x3_1
  have X3_2 := hid x3_2; clear x3_2
  have X3_3 := hid x3_3; clear x3_3
  have G3 := hid (G2.out.trans hg3)
  clear hg3
  go_wp2_with fail
  refine (HD.out _).mono ?_
  rintro e w4 ⟨rfl, hg4⟩
  have x4_1 := hg4.keep X3_1.out
  have x4_2 := hg4.keep X3_2.out
  have x4_3 := hg4.keep X3_3.out
  obtain ⟨_, _⟩ := cells2 x4_1
  have _ := fz x4_1
  have _ := ltb x4_1
  have _ := ltb x4_2
  have _ := ltb x4_3
  have X4_1 := hid x4_1; clear x4_1
  have X4_2 := hid x4_2; clear x4_2
  have X4_3 := hid x4_3; clear x4_3
  have G4 := hid (G3.out.trans hg4)
  clear hg4
  go_wp2
  refine bodyPost_ret (v := fr P Q) (by simp [results, Try.results178, go_sem, *]) rfl ⟨rfl, ?_⟩
  exact ((G4.out).setCell (by simp <;> omega) _).setCell (by simp <;> omega) _
set_option maxRecDepth 20000 in
set_option maxHeartbeats 1000000 in
/-- .. where the sum can't be told -/
theorem imeanBy_b1 (g : Nat) (xs : List (Int × Int)) (w : World) (T : TypeId) (X1 : Hid (w.heap[g]? = some (.cells (flatA xs) T))) (hn : (xs.length : Int) ≤ 64)
    (hs : ∀ (w : World) (g : Nat) (T : TypeId), Hid (w.heap[g]? = some (.cells (flatA xs) T)) → Calls Try.prog 88 #[sl g xs.length] w fun e w' => (∃ x y, e = .panicked [{ v := .iface 183 (fr x y), recovered := false }]) ∧ Gr w w') :
    Calls Try.prog 178 #[sl g xs.length, .func (.func 179) #[] #[]] w fun e w' => (∃ x y, e = .panicked [{ v := .iface 183 (fr x y), recovered := false }]) ∧ Gr w w' := by
  have HS := hid hs; clear hs
  go_enter Try.func178, Try.ntmps178
  have _ := ltb X1.out
  go_wp2_with fail
  refine (ivalues g xs _ T (hid (((Gr.refl _).al _).keep X1.out)) hn).mono ?_
  rintro e w1 ⟨g1_, rfl, xb1, _, hg1⟩
  obtain ⟨x1_0, hz1, g1⟩ := alloc1 hg1
  have x1_1 := g1.keep X1.out
  obtain ⟨_, _⟩ := cells2 x1_0
  have _ := fz x1_0
  have _ := ltb x1_0
  have _ := ltb x1_1
  have _ := ltb xb1
  have X1_0 := hid x1_0; clear x1_0
  have X1_1 := hid x1_1; clear x1_1
  have Xb1 := hid xb1; clear xb1
  have G1 := hid (g1)
  clear hg1 g1
  go_wp2_with fail
  refine (HS.out _ _ _ (hid Xb1.out)).mono ?_
  rintro e w2 ⟨⟨xp, yp, rfl⟩, hg2⟩
  have x2_1 := hg2.keep X1_0.out
  have x2_2 := hg2.keep X1_1.out
  have x2_3 := hg2.keep Xb1.out
  obtain ⟨_, _⟩ := cells2 x2_1
  have _ := fz x2_1
  have _ := ltb x2_1
  have _ := ltb x2_2
  have _ := ltb x2_3
  have X2_1 := hid x2_1; clear x2_1
  have X2_2 := hid x2_2; clear x2_2
  have X2_3 := hid x2_3; clear x2_3
  have G2 := hid (G1.out.trans hg2)
  clear hg2
  exact ⟨rfl, ⟨xp, yp, rfl⟩, G2.out⟩
set_option maxRecDepth 20000 in
set_option maxHeartbeats 1000000 in
/-- .. where the mean can't be told -/
theorem imeanBy_b2 (g : Nat) (xs : List (Int × Int)) (A B : Int) (w : World) (T : TypeId) (X1 : Hid (w.heap[g]? = some (.cells (flatA xs) T))) (hn1 : 1 ≤ (xs.length : Int)) (hn : (xs.length : Int) ≤ 64)
    (hs : ∀ (w : World) (g : Nat) (T : TypeId), Hid (w.heap[g]? = some (.cells (flatA xs) T)) → Calls Try.prog 88 #[sl g xs.length] w fun e w' => e = .returned (fr A B) ∧ Gr w w')
    (hd : ∀ w, Calls Try.prog 183 #[fr A B, fr (xs.length : Int) 1] w fun e w' => (∃ x y, e = .panicked [{ v := .iface 183 (fr x y), recovered := false }]) ∧ Gr w w') :
    Calls Try.prog 178 #[sl g xs.length, .func (.func 179) #[] #[]] w fun e w' => (∃ x y, e = .panicked [{ v := .iface 183 (fr x y), recovered := false }]) ∧ Gr w w' := by
  have HS := hid hs; have HD := hid hd; clear hs hd
  have hf := hid (fits_of (ok_count hn1 hn))
  go_enter Try.func178, Try.ntmps178
  have _ := ltb X1.out
  go_wp2_with fail
  refine (ivalues g xs _ T (hid (((Gr.refl _).al _).keep X1.out)) hn).mono ?_
  rintro e w1 ⟨g1_, rfl, xb1, _, hg1⟩
  obtain ⟨x1_0, hz1, g1⟩ := alloc1 hg1
  have x1_1 := g1.keep X1.out
  obtain ⟨_, _⟩ := cells2 x1_0
  have _ := fz x1_0
  have _ := ltb x1_0
  have _ := ltb x1_1
  have _ := ltb xb1
  have X1_0 := hid x1_0; clear x1_0
  have X1_1 := hid x1_1; clear x1_1
  have Xb1 := hid xb1; clear xb1
  have G1 := hid (g1)
  clear hg1 g1
  go_wp2_with fail
  refine (HS.out _ _ _ (hid Xb1.out)).mono ?_
  rintro e w2 ⟨rfl, hg2⟩
  have x2_1 := hg2.keep X1_0.out
  have x2_2 := hg2.keep X1_1.out
  have x2_3 := hg2.keep Xb1.out
  obtain ⟨_, _⟩ := cells2 x2_1
  have _ := fz x2_1
  have _ := ltb x2_1
  have _ := ltb x2_2
  have _ := ltb x2_3
  have X2_1 := hid x2_1; clear x2_1
  have X2_2 := hid x2_2; clear x2_2
  have X2_3 := hid x2_3; clear x2_3
  have G2 := hid (G1.out.trans hg2)
  clear hg2
  go_wp2_with fail
  refine (fit_ok _ _ _ hf.out.1 hf.out.2).mono ?_
  rintro e w3 ⟨rfl, hg3⟩
  have x3_1 := hg3.keep X2_1.out
  have x3_2 := hg3.keep X2_2.out
  have x3_3 := hg3.keep X2_3.out
  obtain ⟨_, _⟩ := cells2 x3_1
  have _ := fz x3_1
  have _ := ltb x3_1
  have _ := ltb x3_2
  have _ := ltb x3_3
  have X3_1 := hid x3_1; clear x3_1
  have X3_2 := hid x3_2; clear x3_2
  have X3_3 := hid x3_3; clear x3_3
  have G3 := hid (G2.out.trans hg3)
  clear hg3
  go_wp2_with fail
  refine (HD.out _).mono ?_
  rintro e w4 ⟨⟨xp, yp, rfl⟩, hg4⟩
  have x4_1 := hg4.keep X3_1.out
  have x4_2 := hg4.keep X3_2.out
  have x4_3 := hg4.keep X3_3.out
  obtain ⟨_, _⟩ := cells2 x4_1
  have _ := fz x4_1
  have _ := ltb x4_1
  have _ := ltb x4_2
  have _ := ltb x4_3
  have X4_1 := hid x4_1; clear x4_1
  have X4_2 := hid x4_2; clear x4_2
  have X4_3 := hid x4_3; clear x4_3
  have G4 := hid (G3.out.trans hg4)
  clear hg4
  exact ⟨rfl, ⟨xp, yp, rfl⟩, G4.out⟩
end Go.Proofs.Ytpadjkgbeijkpaa
namespace Go.Proofs.Ytpadjkgbeijkpaa
open Go.RowKit Go.Sort

set_option maxRecDepth 20000 in
set_option maxHeartbeats 400000 in
theorem imeanF_ok (g n : Nat) (P Q : Int) (w : World) (h : ∀ w', Gr w w' → Calls Try.prog 178 #[sl g n, .func (.func 179) #[] #[]] w' fun e w'' => e = .returned (fr P Q) ∧ Gr w' w'') :
    Calls Try.prog 175 #[sl g n] w fun e w' => e = .returned (fr P Q) ∧ Gr w w' := by
  have H := hid h; clear h
  go_enter Try.func175, Try.ntmps175
  go_wp2_with fail
  refine (H.out _ ((Gr.refl _).al _)).mono ?_
  rintro e w1 ⟨rfl, hg1⟩
  obtain ⟨x1_0, hz1, g1⟩ := alloc1 hg1
  obtain ⟨_, _⟩ := cells2 x1_0
  have _ := fz x1_0
  have _ := ltb x1_0
  have X1_0 := hid x1_0; clear x1_0
  have G1 := hid (g1)
  clear hg1 g1
  go_wp2
  refine bodyPost_ret (v := fr P Q) (by simp [results, Try.results175, go_sem, *]) rfl ⟨rfl, ?_⟩
  exact ((G1.out).setCell (by simp <;> omega) _).setCell (by simp <;> omega) _
set_option maxRecDepth 20000 in
set_option maxHeartbeats 400000 in
theorem imeanF_bad (g n : Nat) (w : World) (h : ∀ w', Gr w w' → Calls Try.prog 178 #[sl g n, .func (.func 179) #[] #[]] w' fun e w'' => (∃ x y, e = .panicked [{ v := .iface 183 (fr x y), recovered := false }]) ∧ Gr w' w'') :
    Calls Try.prog 175 #[sl g n] w fun e w' => (∃ x y, e = .panicked [{ v := .iface 183 (fr x y), recovered := false }]) ∧ Gr w w' := by
  have H := hid h; clear h
  go_enter Try.func175, Try.ntmps175
  go_wp2_with fail
  refine (H.out _ ((Gr.refl _).al _)).mono ?_
  rintro e w1 ⟨⟨xp, yp, rfl⟩, hg1⟩
  obtain ⟨x1_0, hz1, g1⟩ := alloc1 hg1
  obtain ⟨_, _⟩ := cells2 x1_0
  have _ := fz x1_0
  have _ := ltb x1_0
  have X1_0 := hid x1_0; clear x1_0
  have G1 := hid (g1)
  clear hg1 g1
  exact ⟨rfl, ⟨xp, yp, rfl⟩, G1.out⟩
end Go.Proofs.Ytpadjkgbeijkpaa
