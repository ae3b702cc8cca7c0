/- WALKS: the nearest mark, of the reference. -/
import Derived.Test.YtfkmlgndggnhaaaSkq
namespace Go.Proofs.Ytfkmlgndggnhaaa
open Go.RowKit Go.Sort

theorem ssubd_t (x y p q : Int) (w : World) (h1 : okB x y = true) (h2 : okB p q = true) (h : dB x y p q = true) :
    Calls Try.prog 120 #[fr x y, fr p q] w fun e w' => e = .returned (.tuple #[fr (dP x y p q) (dQ x y p q), .int .i64 0]) ∧ Gr w w' := ssub_t x y p q w h1 h2 h
theorem ssubd_f (x y p q : Int) (w : World) (h1 : okB x y = true) (h2 : okB p q = true) (h : dB x y p q = false) :
    Calls Try.prog 120 #[fr x y, fr p q] w fun e w' => e = .returned (.tuple #[fr 0 0, .int .i64 3]) ∧ Gr w w' := ssub_f x y p q w h1 h2 h
/-- The reference's least one: none yet ahead of the first. -/
def NearRel (D : List (Int × Int)) (k b : Nat) (P Q : Int) (R : Nat × (Int × Int)) : Prop :=
  k = 0 ∨ (okB P Q = true ∧ fl (D.drop k) k b P Q = R)
set_option maxRecDepth 20000 in
set_option maxHeartbeats 1000000 in
theorem snear (a b x y : Int) (A : Option Addr) (c j : Nat) (xs ms : List (Int × Int)) (hms : mks a b xs = ms) (R : Nat) (U V P0 Q0 : Int) (w : World) (X1 : Hid (w.heap[j]? = some (.cells #[.int .i64 a, .int .i64 b, .slice A xs.length c] 32))) (X : Hid (RdF w A xs))
    (hl : xs.length ≤ 60) (h0 : 0 < xs.length) (h1 : okB a b = true) (hx : xs.all (fun x => okB x.1 x.2) = true) (hxy : okB x y = true) (hm : AllMk a b xs) (hd0 : (dists x y ms)[0]? = some (P0, Q0)) (hr : fl ((dists x y ms).drop 1) 1 0 P0 Q0 = (R, (U, V))) :
    Calls Try.prog 75 #[.pointer (some ⟨j, 0, none⟩), fr x y] w fun e w' => ((AllD x y ms ∧ e = .returned (.tuple #[.int .i64 (R : Int), fr U V, .int .i64 0])) ∨ (¬ AllD x y ms ∧ e = .returned (.tuple #[.int .i64 0, fr 0 0, .int .i64 3]))) ∧ Gr w w' := by
  have HM := hid hm; have HX := hid hx; have H1 := hid h1; have HXY := hid hxy; have HR := hid hr; have HD0 := hid hd0
  have hlen : ms.length = xs.length := by rw [← hms, mks_len]
  have HMS := hid hms
  clear hm hx h1 hxy hr hd0 hms
  have hjl : j < w.heap.size := ltb X1.out
  go_enter Try.func75, Try.ntmps75
  obtain ⟨_, _, _⟩ := cells3 X1.out
  have _ := fz X1.out
  have _ := ltb X1.out
  go_wp2_with fail
  go_loopw [7, 9] (fun v u wr => ∃ (k t : Nat) (P Q : Int), v = .int .i64 (t : Int) ∧ u = .int .i64 (k : Int) ∧ k ≤ xs.length ∧ Gr w wr ∧ wr.heap[w.heap.size]? = some (.cells #[.int .i64 x, .int .i64 y] 29) ∧ wr.heap[w.heap.size + 1]? = some (.cells #[.int .i64 0, .int .i64 0] 29) ∧ wr.heap[w.heap.size + 2]? = some (.cells #[.int .i64 P, .int .i64 Q] 29) ∧ (∀ (i : Nat) (p q : Int), i < k → ms[i]? = some (p, q) → dB x y p q = true) ∧ NearRel (dists x y ms) k t P Q (R, (U, V))) (fun _ u _ => xs.length - (intOf u).toNat)
  case atStart =>
    obtain ⟨y0, y1, y2, _, y3⟩ := alloc3 (A := .cells #[.int .i64 x, .int .i64 y] 29) (B := .cells #[.int .i64 0, .int .i64 0] 29) (C := .cells #[.int .i64 0, .int .i64 0] 29) (Gr.refl (((w.alloc _).alloc _).alloc _))
    exact ⟨0, 0, 0, 0, rfl, rfl, by omega, y3, y0, y1, y2, fun i p q h => by omega, .inl rfl⟩
  case round =>
    obtain ⟨k, t, P, Q, rfl, rfl, hk, g0, y2, y3, y4, hall, hs⟩ := hrel
    have HRX := hid (X.out.keep g0); have Y1 := hid (g0.keep X1.out)
    have GW := hid g0; have Y2 := hid y2; have Y3 := hid y3; have Y4 := hid y4; have HALL := hid hall; have HS := hid hs
    clear g0 y2 y3 y4 hall hs
    by_cases hlt : k < xs.length
    · obtain ⟨⟨p, q⟩, hpq⟩ : ∃ pq, xs[k]? = some pq := ⟨xs[k], List.getElem?_eq_getElem _⟩
      have hmk := HM.out k p q hpq
      have hmg : ms[k]? = some (mkP a b k p q, mkQ a b k p q) := HMS.out ▸ mks_get hpq
      have hkk : (k : Int) ≤ 60 := by omega
      have HMK := hid fun (w' : World) (Z1 : Hid (w'.heap[j]? = some (.cells #[.int .i64 a, .int .i64 b, .slice A xs.length c] 32))) (Z : Hid (RdF w' A xs)) => smark_yes a b A c k j xs p q w' Z1 Z hpq (by omega) H1.out (ok_whole (t := k) (by omega) (by omega)) (all_get hpq HX.out) hmk
      obtain ⟨p2, hp2⟩ : ∃ p2, mkP a b k p q = p2 := ⟨_, rfl⟩
      obtain ⟨q2, hq2⟩ : ∃ q2, mkQ a b k p q = q2 := ⟨_, rfl⟩
      rw [hp2, hq2] at hmg
      simp only [hp2, hq2] at HMK
      have HOKM := hid (mks_ok HM.out (HMS.out.symm ▸ hmg))
      have HMG := hid hmg
      clear hmk hmg hpq hp2 hq2
      cases hd : dB x y p2 q2 with
      | false =>
        have HD := hid hd; clear hd
        have HN : Hid (¬ AllD x y ms) := hid fun h => by have := h k p2 q2 HMG.out; rw [HD.out] at this; cases this
        obtain ⟨_, _, _⟩ := cells3 Y1.out
        have _ := fz Y1.out
        have _ := ltb Y1.out
        obtain ⟨_, _⟩ := cells2 Y2.out
        have _ := fz Y2.out
        have _ := ltb Y2.out
        obtain ⟨_, _⟩ := cells2 Y3.out
        have _ := fz Y3.out
        have _ := ltb Y3.out
        obtain ⟨_, _⟩ := cells2 Y4.out
        have _ := fz Y4.out
        have _ := ltb Y4.out
        go_wp2_with fail
        refine (HMK.out _ (hid Y1.out) HRX).mono ?_
        rintro e w1 ⟨rfl, hg1⟩
        have x1_1 := hg1.keep Y1.out
        have x1_2 := hg1.keep Y2.out
        have x1_3 := hg1.keep Y3.out
        have x1_4 := hg1.keep Y4.out
        obtain ⟨_, _, _⟩ := cells3 x1_1
        have _ := fz x1_1
        have _ := ltb x1_1
        obtain ⟨_, _⟩ := cells2 x1_2
        have _ := fz x1_2
        have _ := ltb x1_2
        obtain ⟨_, _⟩ := cells2 x1_3
        have _ := fz x1_3
        have _ := ltb x1_3
        obtain ⟨_, _⟩ := cells2 x1_4
        have _ := fz x1_4
        have _ := ltb x1_4
        have X1_1 := hid x1_1; clear x1_1
        have X1_2 := hid x1_2; clear x1_2
        have X1_3 := hid x1_3; clear x1_3
        have X1_4 := hid x1_4; clear x1_4
        have G1 := hid (GW.out.trans hg1)
        clear hg1
        go_wp2_with fail
        refine (ssubd_f x y p2 q2 _ HXY.out HOKM.out HD.out).mono ?_
        rintro e w2 ⟨rfl, hg2⟩
        obtain ⟨x2_0, hz2, g2⟩ := alloc1 hg2
        have x2_1 := g2.keep X1_1.out
        have x2_2 := g2.keep X1_2.out
        have x2_3 := g2.keep X1_3.out
        have x2_4 := g2.keep X1_4.out
        obtain ⟨_, _, _⟩ := cells3 x2_1
        have _ := fz x2_1
        have _ := ltb x2_1
        obtain ⟨_, _⟩ := cells2 x2_2
        have _ := fz x2_2
        have _ := ltb x2_2
        obtain ⟨_, _⟩ := cells2 x2_3
        have _ := fz x2_3
        have _ := ltb x2_3
        obtain ⟨_, _⟩ := cells2 x2_4
        have _ := fz x2_4
        have _ := ltb x2_4
        obtain ⟨_, _⟩ := cells2 x2_0
        have _ := fz x2_0
        have _ := ltb x2_0
        have X2_1 := hid x2_1; clear x2_1
        have X2_2 := hid x2_2; clear x2_2
        have X2_3 := hid x2_3; clear x2_3
        have X2_4 := hid x2_4; clear x2_4
        have X2_0 := hid x2_0; clear x2_0
        have G2 := hid (G1.out.trans g2)
        clear hg2 g2
        go_wp2_with fail
        refine bodyPost_ret (v := .tuple #[.int .i64 0, fr 0 0, .int .i64 3]) (by simp [results, Try.results75, go_sem, *]) rfl ⟨.inr ⟨HN.out, rfl⟩, ?_⟩
        exact ((G2.out.setCell (by simp <;> omega) _).setCell (by simp <;> omega) _).al _
      | true =>
        have HD := hid hd; clear hd
        have HDO := hid (show okB (dP x y p2 q2) (dQ x y p2 q2) = true from HD.out)
        obtain ⟨P2, hP2⟩ : ∃ P2, absI (dP x y p2 q2) = P2 := ⟨_, rfl⟩
        obtain ⟨Q2, hQ2⟩ : ∃ Q2, dQ x y p2 q2 = Q2 := ⟨_, rfl⟩
        have HDG : Hid ((dists x y ms)[k]? = some (P2, Q2)) := hid (by rw [← hP2, ← hQ2]; exact dists_get HMG.out)
        have HOK2 : Hid (okB P2 Q2 = true) := hid (by rw [← hP2, ← hQ2]; exact absI_bd HDO.out)
        have HSZ : Hid (∀ w, Calls Try.prog 118 #[fr (dP x y p2 q2) Q2] w fun e w' => e = .returned (fr P2 Q2) ∧ Gr w w') := hid fun w => by
          have := ssize _ _ w HDO.out
          rw [hP2, hQ2] at this
          exact this
        have HSB := hid fun w => ssubd_t x y p2 q2 w HXY.out HOKM.out HD.out
        simp only [hQ2] at HSB
        have HALL2 : Hid (∀ (i : Nat) (p q : Int), i < k + 1 → ms[i]? = some (p, q) → dB x y p q = true) := hid fun i p' q' hi hp' => by
          by_cases he : i = k
          · subst he
            have := HMG.out
            rw [hp'] at this
            cases this
            exact HD.out
          · exact HALL.out i p' q' (by omega) hp'
        clear hP2 hQ2 HDO HD
        by_cases hk0 : k = 0
        · subst hk0
          have HN1 : Hid (NearRel (dists x y ms) 1 0 P2 Q2 (R, (U, V))) := hid (.inr ⟨HOK2.out, by have := HD0.out; rw [HDG.out] at this; cases this; exact HR.out⟩)
          obtain ⟨_, _, _⟩ := cells3 Y1.out
          have _ := fz Y1.out
          have _ := ltb Y1.out
          obtain ⟨_, _⟩ := cells2 Y2.out
          have _ := fz Y2.out
          have _ := ltb Y2.out
          obtain ⟨_, _⟩ := cells2 Y3.out
          have _ := fz Y3.out
          have _ := ltb Y3.out
          obtain ⟨_, _⟩ := cells2 Y4.out
          have _ := fz Y4.out
          have _ := ltb Y4.out
          go_wp2_with fail
          refine (HMK.out _ (hid Y1.out) HRX).mono ?_
          rintro e w1 ⟨rfl, hg1⟩
          have x1_1 := hg1.keep Y1.out
          have x1_2 := hg1.keep Y2.out
          have x1_3 := hg1.keep Y3.out
          have x1_4 := hg1.keep Y4.out
          obtain ⟨_, _, _⟩ := cells3 x1_1
          have _ := fz x1_1
          have _ := ltb x1_1
          obtain ⟨_, _⟩ := cells2 x1_2
          have _ := fz x1_2
          have _ := ltb x1_2
          obtain ⟨_, _⟩ := cells2 x1_3
          have _ := fz x1_3
          have _ := ltb x1_3
          obtain ⟨_, _⟩ := cells2 x1_4
          have _ := fz x1_4
          have _ := ltb x1_4
          have X1_1 := hid x1_1; clear x1_1
          have X1_2 := hid x1_2; clear x1_2
          have X1_3 := hid x1_3; clear x1_3
          have X1_4 := hid x1_4; clear x1_4
          have G1 := hid (GW.out.trans hg1)
          clear hg1
          go_wp2_with fail
          refine (HSB.out _).mono ?_
          rintro e w2 ⟨rfl, hg2⟩
          obtain ⟨x2_0, hz2, g2⟩ := alloc1 hg2
          have x2_1 := g2.keep X1_1.out
          have x2_2 := g2.keep X1_2.out
          have x2_3 := g2.keep X1_3.out
          have x2_4 := g2.keep X1_4.out
          obtain ⟨_, _, _⟩ := cells3 x2_1
          have _ := fz x2_1
          have _ := ltb x2_1
          obtain ⟨_, _⟩ := cells2 x2_2
          have _ := fz x2_2
          have _ := ltb x2_2
          obtain ⟨_, _⟩ := cells2 x2_3
          have _ := fz x2_3
          have _ := ltb x2_3
          obtain ⟨_, _⟩ := cells2 x2_4
          have _ := fz x2_4
          have _ := ltb x2_4
          obtain ⟨_, _⟩ := cells2 x2_0
          have _ := fz x2_0
          have _ := ltb x2_0
          have X2_1 := hid x2_1; clear x2_1
          have X2_2 := hid x2_2; clear x2_2
          have X2_3 := hid x2_3; clear x2_3
          have X2_4 := hid x2_4; clear x2_4
          have X2_0 := hid x2_0; clear x2_0
          have G2 := hid (G1.out.trans g2)
          clear hg2 g2
          go_wp2_with fail
          refine (HSZ.out _).mono ?_
          rintro e w3 ⟨rfl, hg3⟩
          obtain ⟨x3_0, hz3, g3⟩ := alloc1 hg3
          have x3_1 := g3.keep X2_1.out
          have x3_2 := g3.keep X2_2.out
          have x3_3 := g3.keep X2_3.out
          have x3_4 := g3.keep X2_4.out
          have x3_5 := g3.keep X2_0.out
          obtain ⟨_, _, _⟩ := cells3 x3_1
          have _ := fz x3_1
          have _ := ltb x3_1
          obtain ⟨_, _⟩ := cells2 x3_2
          have _ := fz x3_2
          have _ := ltb x3_2
          obtain ⟨_, _⟩ := cells2 x3_3
          have _ := fz x3_3
          have _ := ltb x3_3
          obtain ⟨_, _⟩ := cells2 x3_4
          have _ := fz x3_4
          have _ := ltb x3_4
          obtain ⟨_, _⟩ := cells2 x3_5
          have _ := fz x3_5
          have _ := ltb x3_5
          obtain ⟨_, _⟩ := cells2 x3_0
          have _ := fz x3_0
          have _ := ltb x3_0
          have X3_1 := hid x3_1; clear x3_1
          have X3_2 := hid x3_2; clear x3_2
          have X3_3 := hid x3_3; clear x3_3
          have X3_4 := hid x3_4; clear x3_4
          have X3_5 := hid x3_5; clear x3_5
          have X3_0 := hid x3_0; clear x3_0
          have G3 := hid (G2.out.trans g3)
          clear hg3 g3
          go_wp2_with fail
          have hl4 : w.heap.size + 2 < w2.heap.size := by omega
          exact ⟨⟨1, 0, P2, Q2, rfl, rfl, by omega, (((G3.out.setCell (by simp <;> omega) _).setCell (by simp <;> omega) _).setCell (by simp <;> omega) _).setCell (by simp <;> omega) _, set2_old (set2_old X3_2.out (by omega)) (by omega), set2_old (set2_old X3_3.out (by omega)) (by omega), set2_new (set2_old X3_4.out (by omega)), HALL2.out, HN1.out⟩, by simp [intOf]; omega⟩
        · have hkb : ((k : Int) == 0) = false := by simp; omega
          obtain ⟨hokpq, hs⟩ : okB P Q = true ∧ fl ((dists x y ms).drop k) k t P Q = (R, (U, V)) := HS.out.resolve_left hk0
          rw [fl_step HDG.out] at hs
          have HOKPQ := hid hokpq; clear hokpq
          by_cases hc : cmpI P2 Q2 P Q < 0
          · rw [if_pos hc] at hs
            have HN1 : Hid (NearRel (dists x y ms) (k + 1) k P2 Q2 (R, (U, V))) := hid (.inr ⟨HOK2.out, hs⟩)
            have hcd : decide (cmpI P2 Q2 P Q < 0) = true := by simpa using hc
            have HCD := hid hcd
            clear hs hc hcd
            obtain ⟨_, _, _⟩ := cells3 Y1.out
            have _ := fz Y1.out
            have _ := ltb Y1.out
            obtain ⟨_, _⟩ := cells2 Y2.out
            have _ := fz Y2.out
            have _ := ltb Y2.out
            obtain ⟨_, _⟩ := cells2 Y3.out
            have _ := fz Y3.out
            have _ := ltb Y3.out
            obtain ⟨_, _⟩ := cells2 Y4.out
            have _ := fz Y4.out
            have _ := ltb Y4.out
            go_wp2_with fail
            refine (HMK.out _ (hid Y1.out) HRX).mono ?_
            rintro e w1 ⟨rfl, hg1⟩
            have x1_1 := hg1.keep Y1.out
            have x1_2 := hg1.keep Y2.out
            have x1_3 := hg1.keep Y3.out
            have x1_4 := hg1.keep Y4.out
            obtain ⟨_, _, _⟩ := cells3 x1_1
            have _ := fz x1_1
            have _ := ltb x1_1
            obtain ⟨_, _⟩ := cells2 x1_2
            have _ := fz x1_2
            have _ := ltb x1_2
            obtain ⟨_, _⟩ := cells2 x1_3
            have _ := fz x1_3
            have _ := ltb x1_3
            obtain ⟨_, _⟩ := cells2 x1_4
            have _ := fz x1_4
            have _ := ltb x1_4
            have X1_1 := hid x1_1; clear x1_1
            have X1_2 := hid x1_2; clear x1_2
            have X1_3 := hid x1_3; clear x1_3
            have X1_4 := hid x1_4; clear x1_4
            have G1 := hid (GW.out.trans hg1)
            clear hg1
            go_wp2_with fail
            refine (HSB.out _).mono ?_
            rintro e w2 ⟨rfl, hg2⟩
            obtain ⟨x2_0, hz2, g2⟩ := alloc1 hg2
            have x2_1 := g2.keep X1_1.out
            have x2_2 := g2.keep X1_2.out
            have x2_3 := g2.keep X1_3.out
            have x2_4 := g2.keep X1_4.out
            obtain ⟨_, _, _⟩ := cells3 x2_1
            have _ := fz x2_1
            have _ := ltb x2_1
            obtain ⟨_, _⟩ := cells2 x2_2
            have _ := fz x2_2
            have _ := ltb x2_2
            obtain ⟨_, _⟩ := cells2 x2_3
            have _ := fz x2_3
            have _ := ltb x2_3
            obtain ⟨_, _⟩ := cells2 x2_4
            have _ := fz x2_4
            have _ := ltb x2_4
            obtain ⟨_, _⟩ := cells2 x2_0
            have _ := fz x2_0
            have _ := ltb x2_0
            have X2_1 := hid x2_1; clear x2_1
            have X2_2 := hid x2_2; clear x2_2
            have X2_3 := hid x2_3; clear x2_3
            have X2_4 := hid x2_4; clear x2_4
            have X2_0 := hid x2_0; clear x2_0
            have G2 := hid (G1.out.trans g2)
            clear hg2 g2
            go_wp2_with fail
            refine (HSZ.out _).mono ?_
            rintro e w3 ⟨rfl, hg3⟩
            obtain ⟨x3_0, hz3, g3⟩ := alloc1 hg3
            have x3_1 := g3.keep X2_1.out
            have x3_2 := g3.keep X2_2.out
            have x3_3 := g3.keep X2_3.out
            have x3_4 := g3.keep X2_4.out
            have x3_5 := g3.keep X2_0.out
            obtain ⟨_, _, _⟩ := cells3 x3_1
            have _ := fz x3_1
            have _ := ltb x3_1
            obtain ⟨_, _⟩ := cells2 x3_2
            have _ := fz x3_2
            have _ := ltb x3_2
            obtain ⟨_, _⟩ := cells2 x3_3
            have _ := fz x3_3
            have _ := ltb x3_3
            obtain ⟨_, _⟩ := cells2 x3_4
            have _ := fz x3_4
            have _ := ltb x3_4
            obtain ⟨_, _⟩ := cells2 x3_5
            have _ := fz x3_5
            have _ := ltb x3_5
            obtain ⟨_, _⟩ := cells2 x3_0
            have _ := fz x3_0
            have _ := ltb x3_0
            have X3_1 := hid x3_1; clear x3_1
            have X3_2 := hid x3_2; clear x3_2
            have X3_3 := hid x3_3; clear x3_3
            have X3_4 := hid x3_4; clear x3_4
            have X3_5 := hid x3_5; clear x3_5
            have X3_0 := hid x3_0; clear x3_0
            have G3 := hid (G2.out.trans g3)
            clear hg3 g3
            go_wp2_with fail
            refine (scmp_ok P2 Q2 P Q _ HOK2.out HOKPQ.out).mono ?_
            rintro e w4 ⟨rfl, hg4⟩
            have hl4 : w.heap.size + 2 < w2.heap.size := by omega
            have z1 := hg4.keep (set2_new X3_0.out)
            have z2 := hg4.keep (set2_old X3_2.out (show w.heap.size ≠ w2.heap.size by omega))
            have z3 := hg4.keep (set2_old X3_3.out (show w.heap.size + 1 ≠ w2.heap.size by omega))
            have z4 := hg4.keep (set2_old X3_4.out (show w.heap.size + 2 ≠ w2.heap.size by omega))
            obtain ⟨_, _⟩ := cells2 z1
            obtain ⟨_, _⟩ := cells2 z4
            have _ := fz z4
            have _ := ltb z4
            have _ := HCD.out
            have Z2 := hid z2; have Z3 := hid z3; have Z4 := hid z4
            have HG4 := hid (((G3.out.setCell (show w.heap.size ≤ w2.heap.size by omega) _).setCell (show w.heap.size ≤ w2.heap.size by omega) _).trans hg4)
            clear z1 z2 z3 z4 hg4
            go_wp2_with fail
            exact ⟨⟨k + 1, k, P2, Q2, by simp, by simp, by omega, (HG4.out.setCell (by simp <;> omega) _).setCell (by simp <;> omega) _, set2_old Z2.out (by omega), set2_old Z3.out (by omega), set2_new Z4.out, HALL2.out, HN1.out⟩, by simp [intOf]; omega⟩
          · rw [if_neg hc] at hs
            have HN1 : Hid (NearRel (dists x y ms) (k + 1) t P Q (R, (U, V))) := hid (.inr ⟨HOKPQ.out, hs⟩)
            have hcd : decide (cmpI P2 Q2 P Q < 0) = false := by simpa using hc
            have HCD := hid hcd
            clear hs hc hcd
            obtain ⟨_, _, _⟩ := cells3 Y1.out
            have _ := fz Y1.out
            have _ := ltb Y1.out
            obtain ⟨_, _⟩ := cells2 Y2.out
            have _ := fz Y2.out
            have _ := ltb Y2.out
            obtain ⟨_, _⟩ := cells2 Y3.out
            have _ := fz Y3.out
            have _ := ltb Y3.out
            obtain ⟨_, _⟩ := cells2 Y4.out
            have _ := fz Y4.out
            have _ := ltb Y4.out
            go_wp2_with fail
            refine (HMK.out _ (hid Y1.out) HRX).mono ?_
            rintro e w1 ⟨rfl, hg1⟩
            have x1_1 := hg1.keep Y1.out
            have x1_2 := hg1.keep Y2.out
            have x1_3 := hg1.keep Y3.out
            have x1_4 := hg1.keep Y4.out
            obtain ⟨_, _, _⟩ := cells3 x1_1
            have _ := fz x1_1
            have _ := ltb x1_1
            obtain ⟨_, _⟩ := cells2 x1_2
            have _ := fz x1_2
            have _ := ltb x1_2
            obtain ⟨_, _⟩ := cells2 x1_3
            have _ := fz x1_3
            have _ := ltb x1_3
            obtain ⟨_, _⟩ := cells2 x1_4
            have _ := fz x1_4
            have _ := ltb x1_4
            have X1_1 := hid x1_1; clear x1_1
            have X1_2 := hid x1_2; clear x1_2
            have X1_3 := hid x1_3; clear x1_3
            have X1_4 := hid x1_4; clear x1_4
            have G1 := hid (GW.out.trans hg1)
            clear hg1
            go_wp2_with fail
            refine (HSB.out _).mono ?_
            rintro e w2 ⟨rfl, hg2⟩
            obtain ⟨x2_0, hz2, g2⟩ := alloc1 hg2
            have x2_1 := g2.keep X1_1.out
            have x2_2 := g2.keep X1_2.out
            have x2_3 := g2.keep X1_3.out
            have x2_4 := g2.keep X1_4.out
            obtain ⟨_, _, _⟩ := cells3 x2_1
            have _ := fz x2_1
            have _ := ltb x2_1
            obtain ⟨_, _⟩ := cells2 x2_2
            have _ := fz x2_2
            have _ := ltb x2_2
            obtain ⟨_, _⟩ := cells2 x2_3
            have _ := fz x2_3
            have _ := ltb x2_3
            obtain ⟨_, _⟩ := cells2 x2_4
            have _ := fz x2_4
            have _ := ltb x2_4
            obtain ⟨_, _⟩ := cells2 x2_0
            have _ := fz x2_0
            have _ := ltb x2_0
            have X2_1 := hid x2_1; clear x2_1
            have X2_2 := hid x2_2; clear x2_2
            have X2_3 := hid x2_3; clear x2_3
            have X2_4 := hid x2_4; clear x2_4
            have X2_0 := hid x2_0; clear x2_0
            have G2 := hid (G1.out.trans g2)
            clear hg2 g2
            go_wp2_with fail
            refine (HSZ.out _).mono ?_
            rintro e w3 ⟨rfl, hg3⟩
            obtain ⟨x3_0, hz3, g3⟩ := alloc1 hg3
            have x3_1 := g3.keep X2_1.out
            have x3_2 := g3.keep X2_2.out
            have x3_3 := g3.keep X2_3.out
            have x3_4 := g3.keep X2_4.out
            have x3_5 := g3.keep X2_0.out
            obtain ⟨_, _, _⟩ := cells3 x3_1
            have _ := fz x3_1
            have _ := ltb x3_1
            obtain ⟨_, _⟩ := cells2 x3_2
            have _ := fz x3_2
            have _ := ltb x3_2
            obtain ⟨_, _⟩ := cells2 x3_3
            have _ := fz x3_3
            have _ := ltb x3_3
            obtain ⟨_, _⟩ := cells2 x3_4
            have _ := fz x3_4
            have _ := ltb x3_4
            obtain ⟨_, _⟩ := cells2 x3_5
            have _ := fz x3_5
            have _ := ltb x3_5
            obtain ⟨_, _⟩ := cells2 x3_0
            have _ := fz x3_0
            have _ := ltb x3_0
            have X3_1 := hid x3_1; clear x3_1
            have X3_2 := hid x3_2; clear x3_2
            have X3_3 := hid x3_3; clear x3_3
            have X3_4 := hid x3_4; clear x3_4
            have X3_5 := hid x3_5; clear x3_5
            have X3_0 := hid x3_0; clear x3_0
            have G3 := hid (G2.out.trans g3)
            clear hg3 g3
            go_wp2_with fail
            refine (scmp_ok P2 Q2 P Q _ HOK2.out HOKPQ.out).mono ?_
            rintro e w4 ⟨rfl, hg4⟩
            have hl4 : w.heap.size + 2 < w2.heap.size := by omega
            have z1 := hg4.keep (set2_new X3_0.out)
            have z2 := hg4.keep (set2_old X3_2.out (show w.heap.size ≠ w2.heap.size by omega))
            have z3 := hg4.keep (set2_old X3_3.out (show w.heap.size + 1 ≠ w2.heap.size by omega))
            have z4 := hg4.keep (set2_old X3_4.out (show w.heap.size + 2 ≠ w2.heap.size by omega))
            obtain ⟨_, _⟩ := cells2 z1
            obtain ⟨_, _⟩ := cells2 z4
            have _ := fz z4
            have _ := ltb z4
            have _ := HCD.out
            have Z2 := hid z2; have Z3 := hid z3; have Z4 := hid z4
            have HG4 := hid (((G3.out.setCell (show w.heap.size ≤ w2.heap.size by omega) _).setCell (show w.heap.size ≤ w2.heap.size by omega) _).trans hg4)
            clear z1 z2 z3 z4 hg4
            go_wp2_with fail
            exact ⟨⟨k + 1, t, P, Q, by simp, by simp, by omega, HG4.out, Z2.out, Z3.out, Z4.out, HALL2.out, HN1.out⟩, by simp [intOf]; omega⟩
    · obtain rfl : k = xs.length := by omega
      obtain ⟨_, hs⟩ : okB P Q = true ∧ fl ((dists x y ms).drop xs.length) xs.length t P Q = (R, (U, V)) := HS.out.resolve_left (by omega)
      rw [List.drop_eq_nil_of_le (by rw [dists_len]; omega)] at hs
      simp only [fl, Prod.mk.injEq] at hs
      obtain ⟨rfl, rfl, rfl⟩ := hs
      have HAD : Hid (AllD x y ms) := hid fun i p q h => HALL.out i p q (by have := (List.getElem?_eq_some_iff.1 h).1; omega) h
      obtain ⟨_, _, _⟩ := cells3 Y1.out
      have _ := ltb Y1.out
      obtain ⟨_, _⟩ := cells2 Y2.out
      have _ := fz Y2.out
      have _ := ltb Y2.out
      obtain ⟨_, _⟩ := cells2 Y3.out
      have _ := fz Y3.out
      have _ := ltb Y3.out
      obtain ⟨_, _⟩ := cells2 Y4.out
      have _ := fz Y4.out
      have _ := ltb Y4.out
      go_wp2_with fail
      have M0 := hid (ne_of Y1.out Y3.out (by first | omega))
      have M1 := hid (ne_of Y2.out Y3.out (by first | omega))
      have M3 := hid (ne_of Y4.out Y3.out (by first | omega))
      refine wp_regO 4 3 5 53 (by kernel_rfl) (by kernel_rfl) rfl (by decide) rfl rfl rfl rfl (by kernel_rfl) Y3.out (by kernel_rfl) ?_
      apply Exists.intro; apply Exists.intro
      refine ⟨fun wb hb => ?_, ?_⟩
      · obtain ⟨_, _⟩ := atO2 hb Y2.out M1.out
        obtain ⟨_, _⟩ := atO2 hb Y4.out M3.out
        simp only [headOps, List.contains, List.elem, Nat.reduceAdd, Nat.reduceBEq, reduceIte, Bool.false_eq_true, dumOp]
        repeat (first | go_big_quiet_step (first | (fail)) | quiet_step (fail))
        exact wpQuiet_nil rfl
      refine ⟨rfl, ⟨rfl, by simp [Value.oneCell']⟩, fun w1 hg1 => ?_⟩
      have x1_0 := hg1.keep (row_old Y1.out M0.out)
      have x1_1 := hg1.keep (row_old Y2.out M1.out)
      have x1_2 := hg1.keep (row_new Y3.out)
      have x1_3 := hg1.keep (row_old Y4.out M3.out)
      obtain ⟨_, _⟩ := cells2 x1_1
      have _ := fz x1_1
      have _ := ltb x1_1
      obtain ⟨_, _⟩ := cells2 x1_2
      have _ := fz x1_2
      have _ := ltb x1_2
      obtain ⟨_, _⟩ := cells2 x1_3
      have _ := fz x1_3
      have _ := ltb x1_3
      have X1_0 := hid x1_0; clear x1_0
      have X1_1 := hid x1_1; clear x1_1
      have X1_2 := hid x1_2; clear x1_2
      have X1_3 := hid x1_3; clear x1_3
      have G1 := hid ((GW.out.setRow (by first | omega | (simp; done) | (simp; omega)) _).trans hg1); clear hg1
      go_wp2_with fail
      refine bodyPost_ret (v := .tuple #[.int .i64 (t : Int), fr P Q, .int .i64 0]) (by simp [results, Try.results75, go_sem, *]) rfl ⟨.inl ⟨HAD.out, rfl⟩, ?_⟩
      exact G1.out
end Go.Proofs.Ytfkmlgndggnhaaa
