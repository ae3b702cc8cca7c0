/- WALKS: the nearest mark, of the reference. -/
import Derived.Test.YtfkmlgndggnhaaaSkp
namespace Go.Proofs.Ytfkmlgndggnhaaa
open Go.RowKit Go.Sort

theorem ssubd_t (x y p q : Int) (w : World) (h1 : okB x y = true) (h2 : okB p q = true) (h : dB x y p q = true) :
    Calls Try.prog 120 #[fr x y, fr p q] w fun e w' => e = .returned (.tuple #[fr (dP x y p q) (dQ x y p q), .int .i64 0]) ∧ Gr w w' := ssub_t x y p q w h1 h2 h
theorem ssubd_f (x y p q : Int) (w : World) (h1 : okB x y = true) (h2 : okB p q = true) (h : dB x y p q = false) :
    Calls Try.prog 120 #[fr x y, fr p q] w fun e w' => e = .returned (.tuple #[fr 0 0, .int .i64 3]) ∧ Gr w w' := ssub_f x y p q w h1 h2 h
/-- The reference's least one: none yet ahead of the first. -/
def NearRel (D : List (Int × Int)) (k b : Nat) (P Q : Int) (R : Nat × (Int × Int)) : Prop :=
  k = 0 ∨ (okB P Q = true ∧ fl (D.drop k) k b P Q = R)
set_option maxRecDepth 20000 in
set_option maxHeartbeats 1000000 in
theorem snear (a b x y : Int) (A : Option Addr) (c j : Nat) (xs ms : List (Int × Int)) (hms : mks a b xs = ms) (R : Nat) (U V P0 Q0 : Int) (w : World) (X1 : Hid (w.heap[j]? = some (.cells #[.int .i64 a, .int .i64 b, .slice A xs.length c] 32))) (X : Hid (RdF w A xs))
    (hl : xs.length ≤ 60) (h0 : 0 < xs.length) (h1 : okB a b = true) (hx : xs.all (fun x => okB x.1 x.2) = true) (hxy : okB x y = true) (hm : AllMk a b xs) (hd0 : (dists x y ms)[0]? = some (P0, Q0)) (hr : fl ((dists x y ms).drop 1) 1 0 P0 Q0 = (R, (U, V))) :
    Calls Try.prog 75 #[.pointer (some ⟨j, 0, none⟩), fr x y] w fun e w' => ((AllD x y ms ∧ e = .returned (.tuple #[.int .i64 (R : Int), fr U V, .int .i64 0])) ∨ (¬ AllD x y ms ∧ e = .returned (.tuple #[.int .i64 0, fr 0 0, .int .i64 3]))) ∧ Gr w w' := by
  have HM := hid hm; have HX := hid hx; have H1 := hid h1; have HXY := hid hxy; have HR := hid hr; have HD0 := hid hd0
  have hlen : ms.length = xs.length := by rw [← hms, mks_len]
  have HMS := hid hms
  clear hm hx h1 hxy hr hd0 hms
  have hjl : j < w.heap.size := ltb X1.out
  go_enter Try.func75, Try.ntmps75
  obtain ⟨_, _, _⟩ := cells3 X1.out
  have _ := fz X1.out
  have _ := ltb X1.out
  go_wp2_with fail
  go_loopw [7, 9] (fun v u wr => ∃ (k t : Nat) (P Q : Int), v = .int .i64 (t : Int) ∧ u = .int .i64 (k : Int) ∧ k ≤ xs.length ∧ Gr w wr ∧ wr.heap[w.heap.size]? = some (.cells #[.int .i64 x, .int .i64 y] 29) ∧ wr.heap[w.heap.size + 1]? = some (.cells #[.int .i64 0, .int .i64 0] 29) ∧ wr.heap[w.heap.size + 2]? = some (.cells #[.int .i64 P, .int .i64 Q] 29) ∧ (∀ (i : Nat) (p q : Int), i < k → ms[i]? = some (p, q) → dB x y p q = true) ∧ NearRel (dists x y ms) k t P Q (R, (U, V))) (fun _ u _ => xs.length - (intOf u).toNat)
  case atStart =>
    obtain ⟨y0, y1, y2, _, y3⟩ := alloc3 (A := .cells #[.int .i64 x, .int .i64 y] 29) (B := .cells #[.int .i64 0, .int .i64 0] 29) (C := .cells #[.int .i64 0, .int .i64 0] 29) (Gr.refl (((w.alloc _).alloc _).alloc _))
    exact ⟨0, 0, 0, 0, rfl, rfl, by omega, y3, y0, y1, y2, fun i p q h => by omega, .inl rfl⟩
  case round =>
    obtain ⟨k, t, P, Q, rfl, rfl, hk, g0, y2, y3, y4, hall, hs⟩ := hrel
    have HRX := hid (X.out.keep g0); have Y1 := hid (g0.keep X1.out)
    have GW := hid g0; have Y2 := hid y2; have Y3 := hid y3; have Y4 := hid y4; have HALL := hid hall; have HS := hid hs
    clear g0 y2 y3 y4 hall hs
    by_cases hlt : k < xs.length
    · obtain ⟨⟨p, q⟩, hpq⟩ : ∃ pq, xs[k]? = some pq := ⟨xs[k], List.getElem?_eq_getElem _⟩
      have hmk := HM.out k p q hpq
      have hmg : ms[k]? = some (mkP a b k p q, mkQ a b k p q) := HMS.out ▸ mks_get hpq
      have hkk : (k : Int) ≤ 60 := by omega
      have HMK := hid fun (w' : World) (Z1 : Hid (w'.heap[j]? = some (.cells #[.int .i64 a, .int .i64 b, .slice A xs.length c] 32))) (Z : Hid (RdF w' A xs)) => smark_yes a b A c k j xs p q w' Z1 Z hpq (by omega) H1.out (ok_whole (t := k) (by omega) (by omega)) (all_get hpq HX.out) hmk
      obtain ⟨p2, hp2⟩ : ∃ p2, mkP a b k p q = p2 := ⟨_, rfl⟩
      obtain ⟨q2, hq2⟩ : ∃ q2, mkQ a b k p q = q2 := ⟨_, rfl⟩
      rw [hp2, hq2] at hmg
      simp only [hp2, hq2] at HMK
      have HOKM := hid (mks_ok HM.out (HMS.out.symm ▸ hmg))
      have HMG := hid hmg
      clear hmk hmg hpq hp2 hq2
      cases hd : dB x y p2 q2 with
      | false =>
        have HD := hid hd; clear hd
        have HN : Hid (¬ AllD x y ms) := hid fun h => by have := h k p2 q2 HMG.out; rw [HD.out] at this; cases this
        obtain ⟨_, _, _⟩ := cells3 Y1.out
        have _ := fz Y1.out
        have _ := ltb Y1.out
        obtain ⟨_, _⟩ := cells2 Y2.out
        have _ := fz Y2.out
        have _ := ltb Y2.out
        obtain ⟨_, _⟩ := cells2 Y3.out
        have _ := fz Y3.out
        have _ := ltb Y3.out
        obtain ⟨_, _⟩ := cells2 Y4.out
        have _ := fz Y4.out
        have _ := ltb Y4.out
        go_wp2_with fail
        refine (HMK.out _ (hid Y1.out) HRX).mono ?_
        rintro e w1 ⟨rfl, hg1⟩
        have x1_1 := hg1.keep Y1.out
        have x1_2 := hg1.keep Y2.out
        have x1_3 := hg1.keep Y3.out
        have x1_4 := hg1.keep Y4.out
        obtain ⟨_, _, _⟩ := cells3 x1_1
        have _ := fz x1_1
        have _ := ltb x1_1
        obtain ⟨_, _⟩ := cells2 x1_2
        have _ := fz x1_2
        have _ := ltb x1_2
        obtain ⟨_, _⟩ := cells2 x1_3
        have _ := fz x1_3
        have _ := ltb x1_3
        obtain ⟨_, _⟩ := cells2 x1_4
        have _ := fz x1_4
        have _ := ltb x1_4
        have X1_1 := hid x1_1; clear x1_1
        have X1_2 := hid x1_2; clear x1_2
        have X1_3 := hid x1_3; clear x1_3
        have X1_4 := hid x1_4; clear x1_4
        have G1 := hid (GW.out.trans hg1)
        clear hg1
        go_wp2_with fail
        refine (ssubd_f x y p2 q2 _ HXY.out HOKM.out HD.out).mono ?_
        rintro e w2 ⟨rfl, hg2⟩
        obtain ⟨x2_0, hz2, g2⟩ := alloc1 hg2
        have x2_1 := g2.keep X1_1.out
        have x2_2 := g2.keep X1_2.out
        have x2_3 := g2.keep X1_3.out
        have x2_4 := g2.keep X1_4.out
        obtain ⟨_, _, _⟩ := cells3 x2_1
        have _ := fz x2_1
        have _ := ltb x2_1
        obtain ⟨_, _⟩ := cells2 x2_2
        have _ := fz x2_2
        have _ := ltb x2_2
        obtain ⟨_, _⟩ := cells2 x2_3
        have _ := fz x2_3
        have _ := ltb x2_3
        obtain ⟨_, _⟩ := cells2 x2_4
        have _ := fz x2_4
        have _ := ltb x2_4
        obtain ⟨_, _⟩ := cells2 x2_0
        have _ := fz x2_0
        have _ := ltb x2_0
        have X2_1 := hid x2_1; clear x2_1
        have X2_2 := hid x2_2; clear x2_2
        have X2_3 := hid x2_3; clear x2_3
        have X2_4 := hid x2_4; clear x2_4
        have X2_0 := hid x2_0; clear x2_0
        have G2 := hid (G1.out.trans g2)
        clear hg2 g2
        go_wp2_with fail
        refine bodyPost_ret (v := .tuple #[.int .i64 0, fr 0 0, .int .i64 3]) (by simp [results, Try.results75, go_sem, *]) rfl ⟨.inr ⟨HN.out, rfl⟩, ?_⟩
        exact ((G2.out.setCell (by simp <;> omega) _).setCell (by simp <;> omega) _).al _
      | true =>
        have HD := hid hd; clear hd
        have HDO := hid (show okB (dP x y p2 q2) (dQ x y p2 q2) = true from HD.out)
        obtain ⟨P2, hP2⟩ : ∃ P2, absI (dP x y p2 q2) = P2 := ⟨_, rfl⟩
        obtain ⟨Q2, hQ2⟩ : ∃ Q2, dQ x y p2 q2 = Q2 := ⟨_, rfl⟩
        have HDG : Hid ((dists x y ms)[k]? = some (P2, Q2)) := hid (by rw [← hP2, ← hQ2]; exact dists_get HMG.out)
        have HOK2 : Hid (okB P2 Q2 = true) := hid (by rw [← hP2, ← hQ2]; exact absI_bd HDO.out)
        have HSZ : Hid (∀ w, Calls Try.prog 118 #[fr (dP x y p2 q2) Q2] w fun e w' => e = .returned (fr P2 Q2) ∧ Gr w w') := hid fun w => by
          have := ssize _ _ w HDO.out
          rw [hP2, hQ2] at this
          exact this
        have HSB := hid fun w => ssubd_t x y p2 q2 w HXY.out HOKM.out HD.out
        simp only [hQ2] at HSB
        have HALL2 : Hid (∀ (i : Nat) (p q : Int), i < k + 1 → ms[i]? = some (p, q) → dB x y p q = true) := hid fun i p' q' hi hp' => by
          by_cases he : i = k
          · subst he
            have := HMG.out
            rw [hp'] at this
            cases this
            exact HD.out
          · exact HALL.out i p' q' (by omega) hp'
        clear hP2 hQ2 HDO HD
        by_cases hk0 : k = 0
        · subst hk0
          have HN1 : Hid (NearRel (dists x y ms) 1 0 P2 Q2 (R, (U, V))) := hid (.inr ⟨HOK2.out, by have := HD0.out; rw [HDG.out] at this; cases this; exact HR.out⟩)
          obtain ⟨_, _, _⟩ := cells3 Y1.out
          have _ := fz Y1.out
          have _ := ltb Y1.out
          obtain ⟨_, _⟩ := cells2 Y2.out
          have _ := fz Y2.out
          have _ := ltb Y2.out
          obtain ⟨_, _⟩ := cells2 Y3.out
          have _ := fz Y3.out
          have _ := ltb Y3.out
          obtain ⟨_, _⟩ := cells2 Y4.out
          have _ := fz Y4.out
          have _ := ltb Y4.out
          go_wp2_with fail
          refine (HMK.out _ (hid Y1.out) HRX).mono ?_
          rintro e w1 ⟨rfl, hg1⟩
          have x1_1 := hg1.keep Y1.out
          have x1_2 := hg1.keep Y2.out
          have x1_3 := hg1.keep Y3.out
          have x1_4 := hg1.keep Y4.out
          obtain ⟨_, _, _⟩ := cells3 x1_1
          have _ := fz x1_1
          have _ := ltb x1_1
          obtain ⟨_, _⟩ := cells2 x1_2
          have _ := fz x1_2
          have _ := ltb x1_2
          obtain ⟨_, _⟩ := cells2 x1_3
          have _ := fz x1_3
          have _ := ltb x1_3
          obtain ⟨_, _⟩ := cells2 x1_4
          have _ := fz x1_4
          have _ := ltb x1_4
          have X1_1 := hid x1_1; clear x1_1
          have X1_2 := hid x1_2; clear x1_2
          have X1_3 := hid x1_3; clear x1_3
          have X1_4 := hid x1_4; clear x1_4
          have G1 := hid (GW.out.trans hg1)
          clear hg1
          go_wp2_with fail
          refine (HSB.out _).mono ?_
          rintro e w2 ⟨rfl, hg2⟩
          obtain ⟨x2_0, hz2, g2⟩ := alloc1 hg2
          have x2_1 := g2.keep X1_1.out
          have x2_2 := g2.keep X1_2.out
          have x2_3 := g2.keep X1_3.out
          have x2_4 := g2.keep X1_4.out
          obtain ⟨_, _, _⟩ := cells3 x2_1
          have _ := fz x2_1
          have _ := ltb x2_1
          obtain ⟨_, _⟩ := cells2 x2_2
          have _ := fz x2_2
          have _ := ltb x2_2
          obtain ⟨_, _⟩ := cells2 x2_3
          have _ := fz x2_3
          have _ := ltb x2_3
          obtain ⟨_, _⟩ := cells2 x2_4
          have _ := fz x2_4
          have _ := ltb x2_4
          obtain ⟨_, _⟩ := cells2 x2_0
          have _ := fz x2_0
          have _ := ltb x2_0
          have X2_1 := hid x2_1; clear x2_1
          have X2_2 := hid x2_2; clear x2_2
          have X2_3 := hid x2_3; clear x2_3
          have X2_4 := hid x2_4; clear x2_4
          have X2_0 := hid x2_0; clear x2_0
          have G2 := hid (G1.out.trans g2)
          clear hg2 g2
          go_wp2_with fail
          refine (HSZ.out _).mono ?_
          rintro e w3 ⟨rfl, hg3⟩
          obtain ⟨x3_0, hz3, g3⟩ := alloc1 hg3
          have x3_1 := g3.keep X2_1.out
          have x3_2 := g3.keep X2_2.out
          have x3_3 := g3.keep X2_3.out
          have x3_4 := g3.keep X2_4.out
          have x3_5 := g3.keep X2_0.out
          obtain ⟨_, _, _⟩ := cells3 x3_1
          have _ := fz x3_1
          have _ := ltb x3_1
          obtain ⟨_, _⟩ := cells2 x3_2
          have _ := fz x3_2
          have _ := ltb x3_2
          obtain ⟨_, _⟩ := cells2 x3_3
          have _ := fz x3_3
          have _ := ltb x3_3
          obtain ⟨_, _⟩ := cells2 x3_4
          have _ := fz x3_4
          have _ := ltb x3_4
          obtain ⟨_, _⟩ := cells2 x3_5
          have _ := fz x3_5
          have _ := ltb x3_5
          obtain ⟨_, _⟩ := cells2 x3_0
          have _ := fz x3_0
          have _ := ltb x3_0
          have X3_1 := hid x3_1; clear x3_1
          have X3_2 := hid x3_2; clear x3_2
          have X3_3 := hid x3_3; clear x3_3
          have X3_4 := hid x3_4; clear x3_4
          have X3_5 := hid x3_5; clear x3_5
          have X3_0 := hid x3_0; clear x3_0
          have G3 := hid (G2.out.trans g3)
          clear hg3 g3
          go_wp2_with fail
          have hl4 : w.heap.size + 2 < w2.heap.size := by omega
          exact ⟨⟨1, 0, P2, Q2, rfl, rfl, by omega, (((G3.out.setCell (by simp <;> omega) _).setCell (by simp <;> omega) _).setCell (by simp <;> omega) _).setCell (by simp <;> omega) _, set2_old (set2_old X3_2.out (by omega)) (by omega), set2_old (set2_old X3_3.out (by omega)) (by omega), set2_new (set2_old X3_4.out (by omega)), HALL2.out, HN1.out⟩, by simp [intOf]; omega⟩
        · have hkb : ((k : Int) == 0) = false := by simp; omega
          obtain ⟨hokpq, hs⟩ : okB P Q = true ∧ fl ((dists x y ms).drop k) k t P Q = (R, (U, V)) := HS.out.resolve_left hk0
          rw [fl_step HDG.out] at hs
          have HOKPQ := hid hokpq; clear hokpq
          by_cases hc : cmpI P2 Q2 P Q < 0
          · rw [if_pos hc] at hs
            have HN1 : Hid (NearRel (dists x y ms) (k + 1) k P2 Q2 (R, (U, V))) := hid (.inr ⟨HOK2.out, hs⟩)
            have hcd : decide (cmpI P2 Q2 P Q < 0) = true := by simpa using hc
            have HCD := hid hcd
            clear hs hc hcd
            obtain ⟨_, _, _⟩ := cells3 Y1.out
            have _ := fz Y1.out
            have _ := ltb Y1.out
            obtain ⟨_, _⟩ := cells2 Y2.out
            have _ := fz Y2.out
            have _ := ltb Y2.out
            obtain ⟨_, _⟩ := cells2 Y3.out
            have _ := fz Y3.out
            have _ := ltb Y3.out
            obtain ⟨_, _⟩ := cells2 Y4.out
            have _ := fz Y4.out
            have _ := ltb Y4.out
            go_wp2_with fail
            refine (HMK.out _ (hid Y1.out) HRX).mono ?_
            rintro e w1 ⟨rfl, hg1⟩
            have x1_1 := hg1.keep Y1.out
            have x1_2 := hg1.keep Y2.out
            have x1_3 := hg1.keep Y3.out
            have x1_4 := hg1.keep Y4.out
            obtain ⟨_, _, _⟩ := cells3 x1_1
            have _ := fz x1_1
            have _ := ltb x1_1
            obtain ⟨_, _⟩ := cells2 x1_2
            have _ := fz x1_2
            have _ := ltb x1_2
            obtain ⟨_, _⟩ := cells2 x1_3
            have _ := fz x1_3
            have _ := ltb x1_3
            obtain ⟨_, _⟩ := cells2 x1_4
            have _ := fz x1_4
            have _ := ltb x1_4
            have X1_1 := hid x1_1; clear x1_1
            have X1_2 := hid x1_2; clear x1_2
            have X1_3 := hid x1_3; clear x1_3
            have X1_4 := hid x1_4; clear x1_4
            have G1 := hid (GW.out.trans hg1)
            clear hg1
            go_wp2_with fail
            refine (HSB.out _).mono ?_
            rintro e w2 ⟨rfl, hg2⟩
            obtain ⟨x2_0, hz2, g2⟩ := alloc1 hg2
            have x2_1 := g2.keep X1_1.out
            have x2_2 := g2.keep X1_2.out
            have x2_3 := g2.keep X1_3.out
            have x2_4 := g2.keep X1_4.out
            obtain ⟨_, _, _⟩ := cells3 x2_1
            have _ := fz x2_1
            have _ := ltb x2_1
            obtain ⟨_, _⟩ := cells2 x2_2
            have _ := fz x2_2
            have _ := ltb x2_2
            obtain ⟨_, _⟩ := cells2 x2_3
            have _ := fz x2_3
            have _ := ltb x2_3
            obtain ⟨_, _⟩ := cells2 x2_4
            have _ := fz x2_4
            have _ := ltb x2_4
            obtain ⟨_, _⟩ := cells2 x2_0
            have _ := fz x2_0
            have _ := ltb x2_0
            have X2_1 := hid x2_1; clear x2_1
            have X2_2 := hid x2_2; clear x2_2
            have X2_3 := hid x2_3; clear x2_3
            have X2_4 := hid x2_4; clear x2_4
            have X2_0 := hid x2_0; clear x2_0
            have G2 := hid (G1.out.trans g2)
            clear hg2 g2
            go_wp2_with fail
            refine (HSZ.out _).mono ?_
            rintro e w3 ⟨rfl, hg3⟩
            obtain ⟨x3_0, hz3, g3⟩ := alloc1 hg3
            have x3_1 := g3.keep X2_1.out
            have x3_2 := g3.keep X2_2.out
            have x3_3 := g3.keep X2_3.out
            have x3_4 := g3.keep X2_4.out
            have x3_5 := g3.keep X2_0.out
            obtain ⟨_, _, _⟩ := cells3 x3_1
            have _ := fz x3_1
            have _ := ltb x3_1
            obtain ⟨_, _⟩ := cells2 x3_2
            have _ := fz x3_2
            have _ := ltb x3_2
            obtain ⟨_, _⟩ := cells2 x3_3
            have _ := fz x3_3
            have _ := ltb x3_3
            obtain ⟨_, _⟩ := cells2 x3_4
            have _ := fz x3_4
            have _ := ltb x3_4
            obtain ⟨_, _⟩ := cells2 x3_5
            have _ := fz x3_5
            have _ := ltb x3_5
            obtain ⟨_, _⟩ := cells2 x3_0
            have _ := fz x3_0
            have _ := ltb x3_0
            have X3_1 := hid x3_1; clear x3_1
            have X3_2 := hid x3_2; clear x3_2
            have X3_3 := hid x3_3; clear x3_3
            have X3_4 := hid x3_4; clear x3_4
            have X3_5 := hid x3_5; clear x3_5
            have X3_0 := hid x3_0; clear x3_0
            have G3 := hid (G2.out.trans g3)
            clear hg3 g3
            go_wp2_with fail
            refine (scmp_ok P2 Q2 P Q _ HOK2.out HOKPQ.out).mono ?_
            rintro e w4 ⟨rfl, hg4⟩
            have hl4 : w.heap.size + 2 < w2.heap.size := by omega
            have z1 := hg4.keep (set2_new X3_0.out)
            have z2 := hg4.keep (set2_old X3_2.out (show w.heap.size ≠ w2.heap.size by omega))
            have z3 := hg4.keep (set2_old X3_3.out (show w.heap.size + 1 ≠ w2.heap.size by omega))
            have z4 := hg4.keep (set2_old X3_4.out (show w.heap.size + 2 ≠ w2.heap.size by omega))
            obtain ⟨_, _⟩ := cells2 z1
            obtain ⟨_, _⟩ := cells2 z4
            have _ := fz z4
            have _ := ltb z4
            have _ := HCD.out
            have Z2 := hid z2; have Z3 := hid z3; have Z4 := hid z4
            have HG4 := hid (((G3.out.setCell (show w.heap.size ≤ w2.heap.size by omega) _).setCell (show w.heap.size ≤ w2.heap.size by omega) _).trans hg4)
            clear z1 z2 z3 z4 hg4
            go_wp2_with fail
            exact ⟨⟨k + 1, k, P2, Q2, by simp, by simp, by omega, (HG4.out.setCell (by simp <;> omega) _).setCell (by simp <;> omega) _, set2_old Z2.out (by omega), set2_old Z3.out (by omega), set2_new Z4.out, HALL2.out, HN1.out⟩, by simp [intOf]; omega⟩
          · rw [if_neg hc] at hs
            have HN1 : Hid (NearRel (dists x y ms) (k + 1) t P Q (R, (U, V))) := hid (.inr ⟨HOKPQ.out, hs⟩)
            have hcd : decide (cmpI P2 Q2 P Q < 0) = false := by simpa using hc
            have HCD := hid hcd
            clear hs hc hcd
            obtain ⟨_, _, _⟩ := cells3 Y1.out
            have _ := fz Y1.out
            have _ := ltb Y1.out
            obtain ⟨_, _⟩ := cells2 Y2.out
            have _ := fz Y2.out
            have _ := ltb Y2.out
            obtain ⟨_, _⟩ := cells2 Y3.out
            have _ := fz Y3.out
            have _ := ltb Y3.out
            obtain ⟨_, _⟩ := cells2 Y4.out
            have _ := fz Y4.out
            have _ := ltb Y4.out
            go_wp2_with fail
            refine (HMK.out _ (hid Y1.out) HRX).mono ?_
            rintro e w1 ⟨rfl, hg1⟩
            have x1_1 := hg1.keep Y1.out
            have x1_2 := hg1.keep Y2.out
            have x1_3 := hg1.keep Y3.out
            have x1_4 := hg1.keep Y4.out
            obtain ⟨_, _, _⟩ := cells3 x1_1
            have _ := fz x1_1
            have _ := ltb x1_1
            obtain ⟨_, _⟩ := cells2 x1_2
            have _ := fz x1_2
            have _ := ltb x1_2
            obtain ⟨_, _⟩ := cells2 x1_3
            have _ := fz x1_3
            have _ := ltb x1_3
            obtain ⟨_, _⟩ := cells2 x1_4
            have _ := fz x1_4
            have _ := ltb x1_4
            have X1_1 := hid x1_1; clear x1_1
            have X1_2 := hid x1_2; clear x1_2
            have X1_3 := hid x1_3; clear x1_3
            have X1_4 := hid x1_4; clear x1_4
            have G1 := hid (GW.out.trans hg1)
            clear hg1
            go_wp2_with fail
            refine (HSB.out _).mono ?_
            rintro e w2 ⟨rfl, hg2⟩
            obtain ⟨x2_0, hz2, g2⟩ := alloc1 hg2
            have x2_1 := g2.keep X1_1.out
            have x2_2 := g2.keep X1_2.out
            have x2_3 := g2.keep X1_3.out
            have x2_4 := g2.keep X1_4.out
            obtain ⟨_, _, _⟩ := cells3 x2_1
            have _ := fz x2_1
            have _ := ltb x2_1
            obtain ⟨_, _⟩ := cells2 x2_2
            have _ := fz x2_2
            have _ := ltb x2_2
            obtain ⟨_, _⟩ := cells2 x2_3
            have _ := fz x2_3
            have _ := ltb x2_3
            obtain ⟨_, _⟩ := cells2 x2_4
            have _ := fz x2_4
            have _ := ltb x2_4
            obtain ⟨_, _⟩ := cells2 x2_0
            have _ := fz x2_0
            have _ := ltb x2_0
            have X2_1 := hid x2_1; clear x2_1
            have X2_2 := hid x2_2; clear x2_2
            have X2_3 := hid x2_3; clear x2_3
            have X2_4 := hid x2_4; clear x2_4
            have X2_0 := hid x2_0; clear x2_0
            have G2 := hid (G1.out.trans g2)
            clear hg2 g2
            go_wp2_with fail
            refine (HSZ.out _).mono ?_
            rintro e w3 ⟨rfl, hg3⟩
            obtain ⟨x3_0, hz3, g3⟩ := alloc1 hg3
            have x3_1 := g3.keep X2_1.out
            have x3_2 := g3.keep X2_2.out
            have x3_3 := g3.keep X2_3.out
            have x3_4 := g3.keep X2_4.out
            have x3_5 := g3.keep X2_0.out
            obtain ⟨_, _, _⟩ := cells3 x3_1
            have _ := fz x3_1
            have _ := ltb x3_1
            obtain ⟨_, _⟩ := cells2 x3_2
            have _ := fz x3_2
            have _ := ltb x3_2
            obtain ⟨_, _⟩ := cells2 x3_3
            have _ := fz x3_3
            have _ := ltb x3_3
            obtain ⟨_, _⟩ := cells2 x3_4
            have _ := fz x3_4
            have _ := ltb x3_4
            obtain ⟨_, _⟩ := cells2 x3_5
            have _ := fz x3_5
            have _ := ltb x3_5
            obtain ⟨_, _⟩ := cells2 x3_0
            have _ := fz x3_0
            have _ := ltb x3_0
            have X3_1 := hid x3_1; clear x3_1
            have X3_2 := hid x3_2; clear x3_2
            have X3_3 := hid x3_3; clear x3_3
            have X3_4 := hid x3_4; clear x3_4
            have X3_5 := hid x3_5; clear x3_5
            have X3_0 := hid x3_0; clear x3_0
            have G3 := hid (G2.out.trans g3)
            clear hg3 g3
            go_wp2_with fail
            refine (scmp_ok P2 Q2 P Q _ HOK2.out HOKPQ.out).mono ?_
            rintro e w4 ⟨rfl, hg4⟩
            have hl4 : w.heap.size + 2 < w2.heap.size := by omega
            have z1 := hg4.keep (set2_new X3_0.out)
            have z2 := hg4.keep (set2_old X3_2.out (show w.heap.size ≠ w2.heap.size by omega))
            have z3 := hg4.keep (set2_old X3_3.out (show w.heap.size + 1 ≠ w2.heap.size by omega))
            have z4 := hg4.keep (set2_old X3_4.out (show w.heap.size + 2 ≠ w2.heap.size by omega))
            obtain ⟨_, _⟩ := cells2 z1
            obtain ⟨_, _⟩ := cells2 z4
            have _ := fz z4
            have _ := ltb z4
            have _ := HCD.out
            have Z2 := hid z2; have Z3 := hid z3; have Z4 := hid z4
            have HG4 := hid (((G3.out.setCell (show w.heap.size ≤ w2.heap.size by omega) _).setCell (show w.heap.size ≤ w2.heap.size by omega) _).trans hg4)
            clear z1 z2 z3 z4 hg4
            go_wp2_with fail
            exact ⟨⟨k + 1, t, P, Q, by simp, by simp, by omega, HG4.out, Z2.out, Z3.out, Z4.out, HALL2.out, HN1.out⟩, by simp [intOf]; omega⟩
    · obtain rfl : k = xs.length := by omega
      obtain ⟨_, hs⟩ : okB P Q = true ∧ fl ((dists x y ms).drop xs.length) xs.length t P Q = (R, (U, V)) := HS.out.resolve_left (by omega)
      rw [List.drop_eq_nil_of_le (by rw [dists_len]; omega)] at hs
      simp only [fl, Prod.mk.injEq] at hs
      obtain ⟨rfl, rfl, rfl⟩ := hs
      have HAD : Hid (AllD x y ms) := hid fun i p q h => HALL.out i p q (by have := (List.getElem?_eq_some_iff.1 h).1; omega) h
      obtain ⟨_, _, _⟩ := cells3 Y1.out
      have _ := ltb Y1.out
      obtain ⟨_, _⟩ := cells2 Y2.out
      have _ := fz Y2.out
      have _ := ltb Y2.out
      obtain ⟨_, _⟩ := cells2 Y3.out
      have _ := fz Y3.out
      have _ := ltb Y3.out
      obtain ⟨_, _⟩ := cells2 Y4.out
      have _ := fz Y4.out
      have _ := ltb Y4.out
      go_wp2_with fail
      have M0 := hid (ne_of Y1.out Y3.out (by first | omega))
      have M1 := hid (ne_of Y2.out Y3.out (by first | omega))
      have M3 := hid (ne_of Y4.out Y3.out (by first | omega))
      refine wp_regO 4 3 5 53 (by kernel_rfl) (by kernel_rfl) rfl (by decide) rfl rfl rfl rfl (by kernel_rfl) Y3.out (by kernel_rfl) ?_
      apply Exists.intro; apply Exists.intro
      refine ⟨fun wb hb => ?_, ?_⟩
      · obtain ⟨_, _⟩ := atO2 hb Y2.out M1.out
        obtain ⟨_, _⟩ := atO2 hb Y4.out M3.out
        simp only [headOps, List.contains, List.elem, Nat.reduceAdd, Nat.reduceBEq, reduceIte, Bool.false_eq_true, dumOp]
        repeat (first | go_big_quiet_step (first | (fail)) | quiet_step (fail))
        exact wpQuiet_nil rfl
      refine ⟨rfl, ⟨rfl, by simp [Value.oneCell']⟩, fun w1 hg1 => ?_⟩
      have x1_0 := hg1.keep (row_old Y1.out M0.out)
      have x1_1 := hg1.keep (row_old Y2.out M1.out)
      have x1_2 := hg1.keep (row_new Y3.out)
      have x1_3 := hg1.keep (row_old Y4.out M3.out)
      obtain ⟨_, _⟩ := cells2 x1_1
      have _ := fz x1_1
      have _ := ltb x1_1
      obtain ⟨_, _⟩ := cells2 x1_2
      have _ := fz x1_2
      have _ := ltb x1_2
      obtain ⟨_, _⟩ := cells2 x1_3
      have _ := fz x1_3
      have _ := ltb x1_3
      have X1_0 := hid x1_0; clear x1_0
      have X1_1 := hid x1_1; clear x1_1
      have X1_2 := hid x1_2; clear x1_2
      have X1_3 := hid x1_3; clear x1_3
      have G1 := hid ((GW.out.setRow (by first | omega | (simp; done) | (simp; omega)) _).trans hg1); clear hg1
      go_wp2_with fail
      refine bodyPost_ret (v := .tuple #[.int .i64 (t : Int), fr P Q, .int .i64 0]) (by simp [results, Try.results75, go_sem, *]) rfl ⟨.inl ⟨HAD.out, rfl⟩, ?_⟩
      exact G1.out
end Go.Proofs.Ytfkmlgndggnhaaa
namespace Go.Proofs.Ytfkmlgndggnhaaa
open Go.RowKit Go.Sort

theorem pairs_get : ∀ (D : List (Int × Int)) (k : Nat) (p q : Int), D[k]? = some (p, q) → (flatL D)[k * 2]? = some (.int .i64 p) ∧ (flatL D)[k * 2 + 1]? = some (.int .i64 q)
  | [], k, p, q, h => by simp at h
  | x :: r, 0, p, q, h => by simp at h; subst h; simp [flatL]
  | x :: r, k + 1, p, q, h => by
    have := pairs_get r k p q (by simpa using h)
    have e : (k + 1) * 2 = k * 2 + 1 + 1 := by omega
    rw [e]
    simpa [flatL] using this
theorem RdF.of_own {w : World} {base : Nat} {e : TypeId} {v : Value} {D : List (Int × Int)} (h : w.ownsRow base e 2 v D.length (flatL D)) : ∃ A c, v = .slice A D.length c ∧ RdF w A D := by
  rcases h.2 with ⟨hv, h0⟩ | ⟨g, cap, cur, hv, _⟩
  · have : D = [] := List.length_eq_zero_iff.1 h0
    subst this
    exact ⟨none, 0, hv, RdF.nil⟩
  · refine ⟨_, _, hv, fun k p q hk => ⟨_, rfl, ?_, ?_⟩⟩
    · exact h.cells (g := g) (by rw [hv]; rfl) _ _ (pairs_get D k p q hk).1
    · have := h.cells (g := g) (by rw [hv]; rfl) _ _ (pairs_get D k p q hk).2
      rw [add_at] at this ⊢
      exact this
theorem dists_ok {x y : Int} {ms : List (Int × Int)} (h : AllD x y ms) : (dists x y ms).all (fun x => okB x.1 x.2) = true := by
  refine all_of fun k p q hk => ?_
  unfold dists at hk
  rw [List.getElem?_map] at hk
  obtain ⟨⟨u, v⟩, hu, he⟩ := Option.map_eq_some_iff.1 hk
  have h1 := h k u v hu
  simp only [Prod.mk.injEq] at he
  obtain ⟨rfl, rfl⟩ := he
  exact absI_bd h1
/-- A scale's nearest mark, told of its first mark's distance. -/
structure Near (a b x y : Int) (xs : List (Int × Int)) (R : Nat) (U V P0 Q0 : Int) : Prop where
  first : (dists x y (mks a b xs))[0]? = some (P0, Q0)
  fl : fl ((dists x y (mks a b xs)).drop 1) 1 0 P0 Q0 = (R, (U, V))
theorem near_of (a b x y : Int) (xs : List (Int × Int)) (h : 0 < xs.length) : ∃ R U V P0 Q0, Near a b x y xs R U V P0 Q0 := by
  obtain ⟨⟨P0, Q0⟩, h0⟩ : ∃ pq, (dists x y (mks a b xs))[0]? = some pq := ⟨_, List.getElem?_eq_getElem (by rw [dists_len, mks_len]; exact h)⟩
  exact ⟨_, _, _, P0, Q0, h0, rfl⟩

/-! The program -/
set_option maxRecDepth 20000 in
set_option maxHeartbeats 400000 in
theorem inm_fn (a b x y : Int) (A : Option Addr) (c j j2 : Nat) (xs : List (Int × Int)) (R : Nat) (U V P0 Q0 : Int) (N : Near a b x y xs R U V P0 Q0) (w : World) (X1 : Hid (w.heap[j]? = some (.cells #[.int .i64 a, .int .i64 b, .slice A xs.length c] 32))) (X2 : Hid (w.heap[j2]? = some (.cells #[.int .i64 x, .int .i64 y] 29)))
    (X : Hid (RdF w A xs)) (S : Scl a b xs) (hxy : okB x y = true) :
    Calls Try.prog 77 #[.pointer (some ⟨j, 0, none⟩), .pointer (some ⟨j2, 0, none⟩)] w fun e w' => ((AllD x y (mks a b xs) ∧ e = .returned (.int .i64 (R : Int))) ∨ (¬ AllD x y (mks a b xs) ∧ ∃ ch, e = .panicked ch ∧ TooGreat ch)) ∧ Gr w w' := by
  have HD := hid fun (w' : World) (Z : Hid (RdF w' A xs)) => idist a b x y A c xs (mks a b xs) rfl w' Z S.hi S.unit S.all hxy S.mark
  have HN := hid N
  have hlen : (dists x y (mks a b xs)).length = xs.length := by rw [dists_len, mks_len]
  have hhi := S.hi
  have HOK := hid fun h => dists_ok (x := x) (y := y) (ms := mks a b xs) h
  have HF := hid N.first; have HL := hid N.fl
  obtain ⟨Pr, hPr⟩ : ∃ Pr, AllD x y (mks a b xs) = Pr := ⟨_, rfl⟩
  obtain ⟨D, hD⟩ : ∃ D, dists x y (mks a b xs) = D := ⟨_, rfl⟩
  obtain ⟨ms, hms⟩ : ∃ ms, mks a b xs = ms := ⟨_, rfl⟩
  have hml : ms.length = xs.length := by rw [← hms, mks_len]
  unfold distPost at HD
  simp only [hPr, hD] at HD HOK HF HL hlen ⊢
  simp only [hms, hml] at HD
  clear S hxy N HN hPr hD hms
  go_enter Try.func77, Try.ntmps77
  obtain ⟨_, _, _⟩ := cells3 X1.out
  have _ := fz X1.out
  have _ := ltb X1.out
  obtain ⟨_, _⟩ := cells2 X2.out
  have _ := fz X2.out
  have _ := ltb X2.out
  go_wp2_with fail
  refine (HD.out _ X).mono ?_
  rintro e w1 ⟨hg, ⟨hD, v, rfl, own⟩ | ⟨hD, ch, rfl, ht⟩⟩
  · rw [← hlen] at own
    obtain ⟨A', c', rfl, hr⟩ := RdF.of_own own
    have HG := hid hg; have HR := hid hr; have HAD := hid hD
    clear hg hr hD own
    go_wp2_with fail
    have hF := ifirst A' c' D P0 Q0 R w1 HR (by omega) (HOK.out HAD.out) HF.out (by rw [HL.out])
    rw [hlen] at hF
    refine hF.mono ?_
    rintro e w2 ⟨rfl, hg2⟩
    have HG2 := hid (HG.out.trans hg2)
    have HAD2 := hid HAD.out
    clear hg2
    go_wp2
    go_ret
    exact ⟨.inl ⟨HAD2.out, rfl⟩, HG2.out⟩
  · exact ⟨rfl, .inr ⟨hD, ch, rfl, ht⟩, hg⟩
set_option maxRecDepth 20000 in
set_option maxHeartbeats 400000 in
theorem iNearestMark_0 (a b x y : Int) (A : Option Addr) (c : Nat) (xs : List (Int × Int)) (w : World) (X : Hid (RdF w A xs)) (hn : xs.length ≤ 1048576) (h : sclB a b xs = false) :
    Calls Try.prog 33 #[scl a b A xs.length c, fr x y] w fun e w' => e = .returned (.tuple #[.int .i64 0, .int .i64 1]) ∧ Gr w w' := by
  have h := hid h
  go_enter Try.func33, Try.ntmps33
  go_wp2_with fail
  refine (iScF a b A c xs _ (hid (X.out.keep (((Gr.refl w).al _).al _))) hn h.out).mono ?_
  rintro e w1 ⟨rfl, hg1⟩
  obtain ⟨x1_0, x1_1, hz1, g1⟩ := alloc2 hg1
  obtain ⟨_, _, _⟩ := cells3 x1_0
  have _ := fz x1_0
  have _ := ltb x1_0
  obtain ⟨_, _⟩ := cells2 x1_1
  have _ := fz x1_1
  have _ := ltb x1_1
  have X1_0 := hid x1_0; clear x1_0
  have X1_1 := hid x1_1; clear x1_1
  have G1 := hid (g1)
  clear hg1 g1
  go_wp2
  refine bodyPost_ret (v := .tuple #[.int .i64 0, .int .i64 1]) (by simp [results, Try.results33, go_sem, *]) rfl ⟨rfl, ?_⟩
  exact G1.out
set_option maxRecDepth 20000 in
set_option maxHeartbeats 400000 in
theorem iNearestMark_1 (a b x y : Int) (A : Option Addr) (c : Nat) (xs : List (Int × Int)) (w : World) (X : Hid (RdF w A xs)) (hn : xs.length ≤ 1048576) (h : sclB a b xs = true) (hk : okB x y = false) :
    Calls Try.prog 33 #[scl a b A xs.length c, fr x y] w fun e w' => e = .returned (.tuple #[.int .i64 0, .int .i64 1]) ∧ Gr w w' := by
  have h := hid h; have hk := hid hk
  go_enter Try.func33, Try.ntmps33
  go_wp2_with fail
  refine (iScT a b A c xs _ (hid (X.out.keep (((Gr.refl w).al _).al _))) hn h.out).mono ?_
  rintro e w1 ⟨rfl, hg1⟩
  obtain ⟨x1_0, x1_1, hz1, g1⟩ := alloc2 hg1
  obtain ⟨_, _, _⟩ := cells3 x1_0
  have _ := fz x1_0
  have _ := ltb x1_0
  obtain ⟨_, _⟩ := cells2 x1_1
  have _ := fz x1_1
  have _ := ltb x1_1
  have X1_0 := hid x1_0; clear x1_0
  have X1_1 := hid x1_1; clear x1_1
  have G1 := hid (g1)
  clear hg1 g1
  go_wp2_with fail
  refine (iok_f _ _ _ hk.out).mono ?_
  rintro e w2 ⟨rfl, hg2⟩
  have x2_1 := hg2.keep X1_0.out
  have x2_2 := hg2.keep X1_1.out
  obtain ⟨_, _, _⟩ := cells3 x2_1
  have _ := fz x2_1
  have _ := ltb x2_1
  obtain ⟨_, _⟩ := cells2 x2_2
  have _ := fz x2_2
  have _ := ltb x2_2
  have X2_1 := hid x2_1; clear x2_1
  have X2_2 := hid x2_2; clear x2_2
  have G2 := hid (G1.out.trans hg2)
  clear hg2
  go_wp2
  refine bodyPost_ret (v := .tuple #[.int .i64 0, .int .i64 1]) (by simp [results, Try.results33, go_sem, *]) rfl ⟨rfl, ?_⟩
  exact G2.out
set_option maxRecDepth 20000 in
set_option maxHeartbeats 400000 in
theorem iNearestMark_2 (a b x y : Int) (A : Option Addr) (c : Nat) (xs : List (Int × Int)) (Z C : Int) (w : World) (X : Hid (RdF w A xs)) (hn : xs.length ≤ 1048576) (h : sclB a b xs = true) (hk : okB x y = true)
    (hT : ∀ (w' : World) (j j2 : Nat), Hid (w'.heap[j]? = some (.cells #[.int .i64 a, .int .i64 b, .slice A xs.length c] 32)) → Hid (w'.heap[j2]? = some (.cells #[.int .i64 x, .int .i64 y] 29)) → Hid (RdF w' A xs) → Calls Try.prog 76 #[.func (.func 77) #[] #[.pointer (some ⟨j, 0, none⟩), .pointer (some ⟨j2, 0, none⟩)]] w' fun e w'' => e = .returned (.tuple #[.int .i64 Z, .int .i64 C]) ∧ Gr w' w'') :
    Calls Try.prog 33 #[scl a b A xs.length c, fr x y] w fun e w' => e = .returned (.tuple #[.int .i64 Z, .int .i64 C]) ∧ Gr w w' := by
  have h := hid h; have hk := hid hk; have HT := hid hT; clear hT
  go_enter Try.func33, Try.ntmps33
  go_wp2_with fail
  refine (iScT a b A c xs _ (hid (X.out.keep (((Gr.refl w).al _).al _))) hn h.out).mono ?_
  rintro e w1 ⟨rfl, hg1⟩
  obtain ⟨x1_0, x1_1, hz1, g1⟩ := alloc2 hg1
  obtain ⟨_, _, _⟩ := cells3 x1_0
  have _ := fz x1_0
  have _ := ltb x1_0
  obtain ⟨_, _⟩ := cells2 x1_1
  have _ := fz x1_1
  have _ := ltb x1_1
  have X1_0 := hid x1_0; clear x1_0
  have X1_1 := hid x1_1; clear x1_1
  have G1 := hid (g1)
  clear hg1 g1
  go_wp2_with fail
  refine (iok_t _ _ _ hk.out).mono ?_
  rintro e w2 ⟨rfl, hg2⟩
  have x2_1 := hg2.keep X1_0.out
  have x2_2 := hg2.keep X1_1.out
  obtain ⟨_, _, _⟩ := cells3 x2_1
  have _ := fz x2_1
  have _ := ltb x2_1
  obtain ⟨_, _⟩ := cells2 x2_2
  have _ := fz x2_2
  have _ := ltb x2_2
  have X2_1 := hid x2_1; clear x2_1
  have X2_2 := hid x2_2; clear x2_2
  have G2 := hid (G1.out.trans hg2)
  clear hg2
  go_wp2_with fail
  refine (HT.out _ _ _ (hid X2_1.out) (hid X2_2.out) (hid (X.out.keep G2.out))).mono ?_
  rintro e w3 ⟨rfl, hg3⟩
  have x3_1 := hg3.keep X2_1.out
  have x3_2 := hg3.keep X2_2.out
  obtain ⟨_, _, _⟩ := cells3 x3_1
  have _ := fz x3_1
  have _ := ltb x3_1
  obtain ⟨_, _⟩ := cells2 x3_2
  have _ := fz x3_2
  have _ := ltb x3_2
  have X3_1 := hid x3_1; clear x3_1
  have X3_2 := hid x3_2; clear x3_2
  have G3 := hid (G2.out.trans hg3)
  clear hg3
  go_wp2
  refine bodyPost_ret (v := .tuple #[.int .i64 Z, .int .i64 C]) (by simp [results, Try.results33, go_sem, *]) rfl ⟨rfl, ?_⟩
  exact G3.out

/-! The reference -/
set_option maxRecDepth 20000 in
set_option maxHeartbeats 400000 in
theorem sNearestMark_0 (a b x y : Int) (A : Option Addr) (c : Nat) (xs : List (Int × Int)) (w : World) (X : Hid (RdF w A xs)) (hn : xs.length ≤ 1048576) (h : sclB a b xs = false) :
    Calls Try.prog 32 #[scl a b A xs.length c, fr x y] w fun e w' => e = .returned (.tuple #[.int .i64 0, .int .i64 1]) ∧ Gr w w' := by
  have h := hid h
  go_enter Try.func32, Try.ntmps32
  go_wp2_with fail
  refine (sScF a b A c _ xs _ (hid (alloc2 (Gr.refl _)).1) (hid (X.out.keep (((Gr.refl w).al _).al _))) hn h.out).mono ?_
  rintro e w1 ⟨rfl, hg1⟩
  obtain ⟨x1_0, x1_1, hz1, g1⟩ := alloc2 hg1
  obtain ⟨_, _, _⟩ := cells3 x1_0
  have _ := fz x1_0
  have _ := ltb x1_0
  obtain ⟨_, _⟩ := cells2 x1_1
  have _ := fz x1_1
  have _ := ltb x1_1
  have X1_0 := hid x1_0; clear x1_0
  have X1_1 := hid x1_1; clear x1_1
  have G1 := hid (g1)
  clear hg1 g1
  go_wp2
  refine bodyPost_ret (v := .tuple #[.int .i64 0, .int .i64 1]) (by simp [results, Try.results32, go_sem, *]) rfl ⟨rfl, ?_⟩
  exact G1.out
set_option maxRecDepth 20000 in
set_option maxHeartbeats 400000 in
theorem sNearestMark_1 (a b x y : Int) (A : Option Addr) (c : Nat) (xs : List (Int × Int)) (w : World) (X : Hid (RdF w A xs)) (hn : xs.length ≤ 1048576) (h : sclB a b xs = true) (hk : okB x y = false) :
    Calls Try.prog 32 #[scl a b A xs.length c, fr x y] w fun e w' => e = .returned (.tuple #[.int .i64 0, .int .i64 1]) ∧ Gr w w' := by
  have h := hid h; have hk := hid hk
  go_enter Try.func32, Try.ntmps32
  go_wp2_with fail
  refine (sScT a b A c _ xs _ (hid (alloc2 (Gr.refl _)).1) (hid (X.out.keep (((Gr.refl w).al _).al _))) hn h.out).mono ?_
  rintro e w1 ⟨rfl, hg1⟩
  obtain ⟨x1_0, x1_1, hz1, g1⟩ := alloc2 hg1
  obtain ⟨_, _, _⟩ := cells3 x1_0
  have _ := fz x1_0
  have _ := ltb x1_0
  obtain ⟨_, _⟩ := cells2 x1_1
  have _ := fz x1_1
  have _ := ltb x1_1
  have X1_0 := hid x1_0; clear x1_0
  have X1_1 := hid x1_1; clear x1_1
  have G1 := hid (g1)
  clear hg1 g1
  go_wp2_with fail
  refine (sok_f _ _ _ hk.out).mono ?_
  rintro e w2 ⟨rfl, hg2⟩
  have x2_1 := hg2.keep X1_0.out
  have x2_2 := hg2.keep X1_1.out
  obtain ⟨_, _, _⟩ := cells3 x2_1
  have _ := fz x2_1
  have _ := ltb x2_1
  obtain ⟨_, _⟩ := cells2 x2_2
  have _ := fz x2_2
  have _ := ltb x2_2
  have X2_1 := hid x2_1; clear x2_1
  have X2_2 := hid x2_2; clear x2_2
  have G2 := hid (G1.out.trans hg2)
  clear hg2
  go_wp2
  refine bodyPost_ret (v := .tuple #[.int .i64 0, .int .i64 1]) (by simp [results, Try.results32, go_sem, *]) rfl ⟨rfl, ?_⟩
  exact G2.out
set_option maxRecDepth 20000 in
set_option maxHeartbeats 400000 in
theorem sNearestMark_2 (a b x y : Int) (A : Option Addr) (c : Nat) (xs : List (Int × Int)) (Z U V C : Int) (w : World) (X : Hid (RdF w A xs)) (hn : xs.length ≤ 1048576) (h : sclB a b xs = true) (hk : okB x y = true)
    (hT : ∀ (w' : World) (j : Nat), Hid (w'.heap[j]? = some (.cells #[.int .i64 a, .int .i64 b, .slice A xs.length c] 32)) → Hid (RdF w' A xs) → Calls Try.prog 75 #[.pointer (some ⟨j, 0, none⟩), fr x y] w' fun e w'' => e = .returned (.tuple #[.int .i64 Z, fr U V, .int .i64 C]) ∧ Gr w' w'') :
    Calls Try.prog 32 #[scl a b A xs.length c, fr x y] w fun e w' => e = .returned (.tuple #[.int .i64 Z, .int .i64 C]) ∧ Gr w w' := by
  have h := hid h; have hk := hid hk; have HT := hid hT; clear hT
  go_enter Try.func32, Try.ntmps32
  go_wp2_with fail
  refine (sScT a b A c _ xs _ (hid (alloc2 (Gr.refl _)).1) (hid (X.out.keep (((Gr.refl w).al _).al _))) hn h.out).mono ?_
  rintro e w1 ⟨rfl, hg1⟩
  obtain ⟨x1_0, x1_1, hz1, g1⟩ := alloc2 hg1
  obtain ⟨_, _, _⟩ := cells3 x1_0
  have _ := fz x1_0
  have _ := ltb x1_0
  obtain ⟨_, _⟩ := cells2 x1_1
  have _ := fz x1_1
  have _ := ltb x1_1
  have X1_0 := hid x1_0; clear x1_0
  have X1_1 := hid x1_1; clear x1_1
  have G1 := hid (g1)
  clear hg1 g1
  go_wp2_with fail
  refine (sok_t _ _ _ hk.out).mono ?_
  rintro e w2 ⟨rfl, hg2⟩
  have x2_1 := hg2.keep X1_0.out
  have x2_2 := hg2.keep X1_1.out
  obtain ⟨_, _, _⟩ := cells3 x2_1
  have _ := fz x2_1
  have _ := ltb x2_1
  obtain ⟨_, _⟩ := cells2 x2_2
  have _ := fz x2_2
  have _ := ltb x2_2
  have X2_1 := hid x2_1; clear x2_1
  have X2_2 := hid x2_2; clear x2_2
  have G2 := hid (G1.out.trans hg2)
  clear hg2
  go_wp2_with fail
  refine (HT.out _ _ (hid X2_1.out) (hid (X.out.keep G2.out))).mono ?_
  rintro e w3 ⟨rfl, hg3⟩
  have x3_1 := hg3.keep X2_1.out
  have x3_2 := hg3.keep X2_2.out
  obtain ⟨_, _, _⟩ := cells3 x3_1
  have _ := fz x3_1
  have _ := ltb x3_1
  obtain ⟨_, _⟩ := cells2 x3_2
  have _ := fz x3_2
  have _ := ltb x3_2
  have X3_1 := hid x3_1; clear x3_1
  have X3_2 := hid x3_2; clear x3_2
  have G3 := hid (G2.out.trans hg3)
  clear hg3
  go_wp2
  refine bodyPost_ret (v := .tuple #[.int .i64 Z, .int .i64 C]) (by simp [results, Try.results32, go_sem, *]) rfl ⟨rfl, ?_⟩
  exact (G3.out).al _
theorem bothNearestMark (a b : Int) (xs : List (Int × Int)) (x y : Int) (hn : xs.length ≤ 1048576) : ∃ R0 R1 : Int,
    (∀ (A : Option Addr) (c : Nat) (w : World), Hid (RdF w A xs) → Calls Try.prog 32 #[scl a b A xs.length c, fr x y] w fun x w' => x = .returned (.tuple #[.int .i64 R0, .int .i64 R1]) ∧ Gr w w') ∧
    (∀ (A : Option Addr) (c : Nat) (w : World), Hid (RdF w A xs) → Calls Try.prog 33 #[scl a b A xs.length c, fr x y] w fun x w' => x = .returned (.tuple #[.int .i64 R0, .int .i64 R1]) ∧ Gr w w') := by
  cases h : sclB a b xs with
  | false => exact ⟨0, 1, fun A c w X => sNearestMark_0 a b x y A c xs w X hn h, fun A c w X => iNearestMark_0 a b x y A c xs w X hn h⟩
  | true =>
    cases hk : okB x y with
    | false => exact ⟨0, 1, fun A c w X => sNearestMark_1 a b x y A c xs w X hn h hk, fun A c w X => iNearestMark_1 a b x y A c xs w X hn h hk⟩
    | true =>
      have S := scl_of h
      have h0 : 0 < xs.length := by have := S.lo; omega
      obtain ⟨R, U, V, P0, Q0, N⟩ := near_of a b x y xs h0
      by_cases hD : AllD x y (mks a b xs)
      · refine ⟨R, 0, fun A c w X => sNearestMark_2 a b x y A c xs R U V 0 w X hn h hk fun w' j X1 X' => (snear a b x y A c j xs _ rfl R U V P0 Q0 w' X1 X' S.hi h0 S.unit S.all hk S.mark N.first N.fl).mono ?_, fun A c w X => iNearestMark_2 a b x y A c xs R 0 w X hn h hk fun w' j j2 X1 X2 X' => told_ok_I _ _ _ w' (fun _ => by kernel_rfl) fun w2 hg2 => (inm_fn a b x y A c j j2 xs R U V P0 Q0 N w2 (hid (hg2.keep X1.out)) (hid (hg2.keep X2.out)) (hid (X'.out.keep hg2)) S hk).mono ?_⟩
        · rintro e w'' ⟨⟨_, rfl⟩ | ⟨hn', _⟩, hg⟩
          · exact ⟨rfl, hg⟩
          · exact absurd hD hn'
        · rintro e w'' ⟨⟨_, rfl⟩ | ⟨hn', _⟩, hg⟩
          · exact ⟨rfl, hg⟩
          · exact absurd hD hn'
      · refine ⟨0, 3, fun A c w X => sNearestMark_2 a b x y A c xs 0 0 0 3 w X hn h hk fun w' j X1 X' => (snear a b x y A c j xs _ rfl R U V P0 Q0 w' X1 X' S.hi h0 S.unit S.all hk S.mark N.first N.fl).mono ?_, fun A c w X => iNearestMark_2 a b x y A c xs 0 3 w X hn h hk fun w' j j2 X1 X2 X' => told_great_I _ _ w' (fun _ => by kernel_rfl) fun w2 hg2 => (inm_fn a b x y A c j j2 xs R U V P0 Q0 N w2 (hid (hg2.keep X1.out)) (hid (hg2.keep X2.out)) (hid (X'.out.keep hg2)) S hk).mono ?_⟩
        · rintro e w'' ⟨⟨hD', _⟩ | ⟨_, rfl⟩, hg⟩
          · exact absurd hD' hD
          · exact ⟨rfl, hg⟩
        · rintro e w'' ⟨⟨hD', _⟩ | ⟨_, ch, rfl, u, v, rfl⟩, hg⟩
          · exact absurd hD' hD
          · exact ⟨⟨u, v, rfl⟩, hg⟩
end Go.Proofs.Ytfkmlgndggnhaaa
