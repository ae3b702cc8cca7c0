/- WALKS: PlayFound, of the program and of the reference. -/
import Derived.Test.YtjcebojmfoppaaaX6
namespace Go.Proofs.Ytjcebojmfoppaaa
open Go.RowKit Go.Sort

theorem mv_ok {a b n c d p q y : Int} (hp : okB p q = true) : ∀ (k : Nat) (t i : Int) (r : Moves), mv a b n c d p q y k t i = r → r.c = 0 → (-10000 ≤ r.t ∧ r.t ≤ 10000) ∧ okB r.p r.q = true
  | 0, _, _, r, h, hc => by subst h; simp [mv] at hc
  | k + 1, t, i, r, h, hc => by
    unfold mv at h
    by_cases hC : stC a b n c d t y = 0
    · rw [if_pos hC] at h
      obtain ⟨i12, _, ge⟩ := stC_ok hC
      obtain ⟨_, g2, g3⟩ := eB_all ge
      by_cases hst : atP a b n c d (t + y) p q = p ∧ atQ a b n c d (t + y) p q = q
      · rw [if_pos hst] at h; exact mv_ok hp k _ _ r h hc
      · rw [if_neg hst] at h
        subst h
        exact ⟨i12, ok_mn (ok_mx hp g3) g2⟩
    · rw [if_neg hC] at h
      subst h
      exact absurd hc hC
theorem mv_n {a b n c d p q y : Int} : ∀ (k : Nat) (t i : Int) (r : Moves), mv a b n c d p q y k t i = r → r.c ≠ 0 → r.n = 0
  | 0, _, _, r, h, _ => by subst h; rfl
  | k + 1, t, i, r, h, hc => by
    unfold mv at h
    by_cases hC : stC a b n c d t y = 0
    · rw [if_pos hC] at h
      by_cases hst : atP a b n c d (t + y) p q = p ∧ atQ a b n c d (t + y) p q = q
      · rw [if_pos hst] at h; exact mv_n k _ _ r h hc
      · rw [if_neg hst] at h
        subst h
        exact absurd rfl hc
    · rw [if_neg hC] at h
      subst h
      rfl
theorem smovesV (a b n c d t p q y m : Int) (w : World) (k : Nat) (X1 : Hid (w.heap[k]? = some (.cells #[.int .i64 a, .int .i64 b, .int .i64 n, .int .i64 c, .int .i64 d] 35))) (hs : scB a b n c d = true)
    (hp : okB p q = true) (t1 : -10000 ≤ t) (t2 : t ≤ 10000) (y1 : -20000 ≤ y) (y2 : y ≤ 20000) (m1 : 0 ≤ m) (m2 : m ≤ 10000) (T P Q N C : Int) (h : mv a b n c d p q y m.toNat t 0 = ⟨T, P, Q, N, C⟩) :
    Calls Try.prog 51 #[.pointer (some ⟨k, 0, none⟩), spi t p q, .int .i64 y, .int .i64 m] w fun e w' => e = .returned (.tuple #[spi T P Q, .int .i64 N, .int .i64 C]) ∧ Gr w w' := by
  have := smoves a b n c d t p q y m w k X1 hs hp t1 t2 y1 y2 m1 m2
  rw [h] at this
  exact this
theorem imovesV (a b n c d t p q y m : Int) (w : World) (hs : scB a b n c d = true)
    (hp : okB p q = true) (t1 : -10000 ≤ t) (t2 : t ≤ 10000) (y1 : -20000 ≤ y) (y2 : y ≤ 20000) (m1 : 0 ≤ m) (m2 : m ≤ 10000) (T P Q N C : Int) (h : mv a b n c d p q y m.toNat t 0 = ⟨T, P, Q, N, C⟩) :
    Calls Try.prog 50 #[sc a b n c d, .func (.func 52) #[] #[], spi t p q, .int .i64 y, .int .i64 m] w fun e w' => e = .returned (.tuple #[spi T P Q, .int .i64 N, .int .i64 C]) ∧ Gr w w' := by
  have := imoves a b n c d t p q y m w hs hp t1 t2 y1 y2 m1 m2
  rw [h] at this
  exact this
set_option maxRecDepth 20000 in
set_option maxHeartbeats 400000 in
theorem icount_n (m : Int) (w : World) (h : decide (0 ≤ m) = false) : Calls Try.prog 48 #[.int .i64 m] w fun e w' => e = .returned (.bool (false)) ∧ Gr w w' := by
  go_enter Try.func48, Try.ntmps48
  go_wp2
  go_ret
  exact ⟨rfl, (Gr.refl _)⟩
set_option maxRecDepth 20000 in
set_option maxHeartbeats 400000 in
theorem icount_y (m : Int) (w : World) (h : decide (0 ≤ m) = true) : Calls Try.prog 48 #[.int .i64 m] w fun e w' => e = .returned (.bool (decide (m ≤ 10000))) ∧ Gr w w' := by
  go_enter Try.func48, Try.ntmps48
  go_wp2
  go_ret
  exact ⟨rfl, (Gr.refl _)⟩
theorem icount (m : Int) (w : World) : Calls Try.prog 48 #[.int .i64 m] w fun e w' => e = .returned (.bool (inB m 0 10000)) ∧ Gr w w' := by
  unfold inB
  cases h : decide (0 ≤ m) with
  | false => exact icount_n m w h
  | true => exact icount_y m w h
theorem icount_t (m : Int) (w : World) (h : inB m 0 10000 = true) : Calls Try.prog 48 #[.int .i64 m] w fun e w' => e = .returned (.bool true) ∧ Gr w w' :=
  (icount m w).mono fun e w' ⟨he, hg⟩ => ⟨by rw [he, h], hg⟩
theorem icount_f (m : Int) (w : World) (h : inB m 0 10000 = false) : Calls Try.prog 48 #[.int .i64 m] w fun e w' => e = .returned (.bool false) ∧ Gr w w' :=
  (icount m w).mono fun e w' ⟨he, hg⟩ => ⟨by rw [he, h], hg⟩
set_option maxRecDepth 20000 in
set_option maxHeartbeats 400000 in
theorem sPlay_no (a b n c d t p q m : Int) (w : World) (h : sdB a b n c d t p q = false) :
    Calls Try.prog 28 #[sc a b n c d, spi t p q, .int .i64 m] w fun e w' => e = .returned (.tuple #[.int .i64 0, .int .i64 1]) ∧ Gr w w' := by
  have h := hid h
  go_enter Try.func28, Try.ntmps28
  go_wp2_with fail
  refine (sspin_F _ _ _ _ _ _ _ _ _ _ _ (hid (alloc2 (Gr.refl _)).1) (hid (alloc2 (Gr.refl _)).2.1) h.out).mono ?_
  rintro e w1 ⟨rfl, hg1⟩
  obtain ⟨x1_0, x1_1, hz1, g1⟩ := alloc2 hg1
  obtain ⟨_, _, _, _, _⟩ := cells5 x1_0
  have _ := fz x1_0
  have _ := ltb x1_0
  obtain ⟨_, _, _⟩ := cells3 x1_1
  have _ := fz x1_1
  have _ := ltb x1_1
  have X1_0 := hid x1_0; clear x1_0
  have X1_1 := hid x1_1; clear x1_1
  have G1 := hid (g1)
  clear hg1 g1
  go_wp2
  go_ret2
  exact ⟨rfl, G1.out⟩
set_option maxRecDepth 20000 in
set_option maxHeartbeats 400000 in
theorem sPlay_rng (a b n c d t p q m : Int) (w : World) (h : sdB a b n c d t p q = true) (hm : inB m 0 10000 = false) :
    Calls Try.prog 28 #[sc a b n c d, spi t p q, .int .i64 m] w fun e w' => e = .returned (.tuple #[.int .i64 0, .int .i64 2]) ∧ Gr w w' := by
  have h := hid h; have hm := hid hm
  go_enter Try.func28, Try.ntmps28
  go_wp2_with fail
  refine (sspin_T _ _ _ _ _ _ _ _ _ _ _ (hid (alloc2 (Gr.refl _)).1) (hid (alloc2 (Gr.refl _)).2.1) h.out).mono ?_
  rintro e w1 ⟨rfl, hg1⟩
  obtain ⟨x1_0, x1_1, hz1, g1⟩ := alloc2 hg1
  obtain ⟨_, _, _, _, _⟩ := cells5 x1_0
  have _ := fz x1_0
  have _ := ltb x1_0
  obtain ⟨_, _, _⟩ := cells3 x1_1
  have _ := fz x1_1
  have _ := ltb x1_1
  have X1_0 := hid x1_0; clear x1_0
  have X1_1 := hid x1_1; clear x1_1
  have G1 := hid (g1)
  clear hg1 g1
  go_wp2_with fail
  refine (in_f _ _ _ _ hm.out).mono ?_
  rintro e w2 ⟨rfl, hg2⟩
  have x2_1 := hg2.keep X1_0.out
  have x2_2 := hg2.keep X1_1.out
  obtain ⟨_, _, _, _, _⟩ := cells5 x2_1
  have _ := fz x2_1
  have _ := ltb x2_1
  obtain ⟨_, _, _⟩ := cells3 x2_2
  have _ := fz x2_2
  have _ := ltb x2_2
  have X2_1 := hid x2_1; clear x2_1
  have X2_2 := hid x2_2; clear x2_2
  have G2 := hid (G1.out.trans hg2)
  clear hg2
  go_wp2
  go_ret2
  exact ⟨rfl, G2.out⟩
set_option maxRecDepth 20000 in
set_option maxHeartbeats 400000 in
theorem sPlay_e1 (a b n c d t p q m : Int) (w : World) (h : sdB a b n c d t p q = true) (hm : inB m 0 10000 = true) (T P Q N C : Int) (r1 : mv a b n c d p q 1 m.toNat t 0 = ⟨T, P, Q, N, C⟩) (hC : C ≠ 0) :
    Calls Try.prog 28 #[sc a b n c d, spi t p q, .int .i64 m] w fun e w' => e = .returned (.tuple #[.int .i64 0, .int .i64 C]) ∧ Gr w w' := by
  have c1 : ((C : Int) == 0) = false := by simpa using hC
  have c2 : ((C : Int) != 0) = true := by simpa using hC
  clear hC
  obtain ⟨hs, ⟨t1, t2⟩, hp, _, _⟩ := sdB_all h
  obtain ⟨m1, m2⟩ := in_bd hm
  have HS := hid hs; have HP := hid hp; clear hs hp
  have h := hid h; have hm := hid hm
  have R1 := hid r1; clear r1
  go_enter Try.func28, Try.ntmps28
  go_wp2_with fail
  refine (sspin_T _ _ _ _ _ _ _ _ _ _ _ (hid (alloc2 (Gr.refl _)).1) (hid (alloc2 (Gr.refl _)).2.1) h.out).mono ?_
  rintro e w1 ⟨rfl, hg1⟩
  obtain ⟨x1_0, x1_1, hz1, g1⟩ := alloc2 hg1
  obtain ⟨_, _, _, _, _⟩ := cells5 x1_0
  have _ := fz x1_0
  have _ := ltb x1_0
  obtain ⟨_, _, _⟩ := cells3 x1_1
  have _ := fz x1_1
  have _ := ltb x1_1
  have X1_0 := hid x1_0; clear x1_0
  have X1_1 := hid x1_1; clear x1_1
  have G1 := hid (g1)
  clear hg1 g1
  go_wp2_with fail
  refine (in_t _ _ _ _ hm.out).mono ?_
  rintro e w2 ⟨rfl, hg2⟩
  have x2_1 := hg2.keep X1_0.out
  have x2_2 := hg2.keep X1_1.out
  obtain ⟨_, _, _, _, _⟩ := cells5 x2_1
  have _ := fz x2_1
  have _ := ltb x2_1
  obtain ⟨_, _, _⟩ := cells3 x2_2
  have _ := fz x2_2
  have _ := ltb x2_2
  have X2_1 := hid x2_1; clear x2_1
  have X2_2 := hid x2_2; clear x2_2
  have G2 := hid (G1.out.trans hg2)
  clear hg2
  go_wp2_with fail
  refine (smovesV _ _ _ _ _ _ _ _ _ _ _ _ (hid X2_1.out) HS.out HP.out t1 t2 (by omega) (by omega) m1 m2 _ _ _ _ _ R1.out).mono ?_
  rintro e w3 ⟨rfl, hg3⟩
  have x3_1 := hg3.keep X2_1.out
  have x3_2 := hg3.keep X2_2.out
  obtain ⟨_, _, _, _, _⟩ := cells5 x3_1
  have _ := fz x3_1
  have _ := ltb x3_1
  obtain ⟨_, _, _⟩ := cells3 x3_2
  have _ := fz x3_2
  have _ := ltb x3_2
  have X3_1 := hid x3_1; clear x3_1
  have X3_2 := hid x3_2; clear x3_2
  have G3 := hid (G2.out.trans hg3)
  clear hg3
  go_wp2
  go_ret2
  exact ⟨rfl, (G3.out).al _⟩
set_option maxRecDepth 20000 in
set_option maxHeartbeats 400000 in
theorem sPlay_e2 (a b n c d t p q m : Int) (w : World) (h : sdB a b n c d t p q = true) (hm : inB m 0 10000 = true) (T P Q N : Int) (r1 : mv a b n c d p q 1 m.toNat t 0 = ⟨T, P, Q, N, 0⟩) (T2 P2 Q2 N2 C : Int) (r2 : mv a b n c d P Q (-1) m.toNat T 0 = ⟨T2, P2, Q2, N2, C⟩) (hC : C ≠ 0) :
    Calls Try.prog 28 #[sc a b n c d, spi t p q, .int .i64 m] w fun e w' => e = .returned (.tuple #[.int .i64 0, .int .i64 C]) ∧ Gr w w' := by
  have c1 : ((C : Int) == 0) = false := by simpa using hC
  have c2 : ((C : Int) != 0) = true := by simpa using hC
  clear hC
  obtain ⟨hs, ⟨t1, t2⟩, hp, _, _⟩ := sdB_all h
  obtain ⟨m1, m2⟩ := in_bd hm
  obtain ⟨⟨T1, T1'⟩, okP⟩ := mv_ok hp _ _ _ _ r1 rfl
  have HS := hid hs; have HP := hid hp; clear hs hp
  have h := hid h; have hm := hid hm
  have R1 := hid r1; have R2 := hid r2; have OP := hid okP; clear r1 r2 okP
  go_enter Try.func28, Try.ntmps28
  go_wp2_with fail
  refine (sspin_T _ _ _ _ _ _ _ _ _ _ _ (hid (alloc2 (Gr.refl _)).1) (hid (alloc2 (Gr.refl _)).2.1) h.out).mono ?_
  rintro e w1 ⟨rfl, hg1⟩
  obtain ⟨x1_0, x1_1, hz1, g1⟩ := alloc2 hg1
  obtain ⟨_, _, _, _, _⟩ := cells5 x1_0
  have _ := fz x1_0
  have _ := ltb x1_0
  obtain ⟨_, _, _⟩ := cells3 x1_1
  have _ := fz x1_1
  have _ := ltb x1_1
  have X1_0 := hid x1_0; clear x1_0
  have X1_1 := hid x1_1; clear x1_1
  have G1 := hid (g1)
  clear hg1 g1
  go_wp2_with fail
  refine (in_t _ _ _ _ hm.out).mono ?_
  rintro e w2 ⟨rfl, hg2⟩
  have x2_1 := hg2.keep X1_0.out
  have x2_2 := hg2.keep X1_1.out
  obtain ⟨_, _, _, _, _⟩ := cells5 x2_1
  have _ := fz x2_1
  have _ := ltb x2_1
  obtain ⟨_, _, _⟩ := cells3 x2_2
  have _ := fz x2_2
  have _ := ltb x2_2
  have X2_1 := hid x2_1; clear x2_1
  have X2_2 := hid x2_2; clear x2_2
  have G2 := hid (G1.out.trans hg2)
  clear hg2
  go_wp2_with fail
  refine (smovesV _ _ _ _ _ _ _ _ _ _ _ _ (hid X2_1.out) HS.out HP.out t1 t2 (by omega) (by omega) m1 m2 _ _ _ _ _ R1.out).mono ?_
  rintro e w3 ⟨rfl, hg3⟩
  have x3_1 := hg3.keep X2_1.out
  have x3_2 := hg3.keep X2_2.out
  obtain ⟨_, _, _, _, _⟩ := cells5 x3_1
  have _ := fz x3_1
  have _ := ltb x3_1
  obtain ⟨_, _, _⟩ := cells3 x3_2
  have _ := fz x3_2
  have _ := ltb x3_2
  have X3_1 := hid x3_1; clear x3_1
  have X3_2 := hid x3_2; clear x3_2
  have G3 := hid (G2.out.trans hg3)
  clear hg3
  go_wp2_with fail
  refine (smovesV _ _ _ _ _ _ _ _ _ _ _ _ (hid (((Gr.refl _).al _).keep X3_1.out)) HS.out OP.out T1 T1' (by omega) (by omega) m1 m2 _ _ _ _ _ R2.out).mono ?_
  rintro e w4 ⟨rfl, hg4⟩
  obtain ⟨x4_0, hz4, g4⟩ := alloc1 hg4
  have x4_1 := g4.keep X3_1.out
  have x4_2 := g4.keep X3_2.out
  obtain ⟨_, _, _, _, _⟩ := cells5 x4_1
  have _ := fz x4_1
  have _ := ltb x4_1
  obtain ⟨_, _, _⟩ := cells3 x4_2
  have _ := fz x4_2
  have _ := ltb x4_2
  obtain ⟨_, _, _⟩ := cells3 x4_0
  have _ := fz x4_0
  have _ := ltb x4_0
  have X4_1 := hid x4_1; clear x4_1
  have X4_2 := hid x4_2; clear x4_2
  have X4_0 := hid x4_0; clear x4_0
  have G4 := hid (G3.out.trans g4)
  clear hg4 g4
  go_wp2
  go_ret2
  exact ⟨rfl, (G4.out).al _⟩
set_option maxRecDepth 20000 in
set_option maxHeartbeats 400000 in
theorem sPlay_y (a b n c d t p q m : Int) (w : World) (h : sdB a b n c d t p q = true) (hm : inB m 0 10000 = true) (T P Q N : Int) (r1 : mv a b n c d p q 1 m.toNat t 0 = ⟨T, P, Q, N, 0⟩) (T2 P2 Q2 N2 : Int) (r2 : mv a b n c d P Q (-1) m.toNat T 0 = ⟨T2, P2, Q2, N2, 0⟩) :
    Calls Try.prog 28 #[sc a b n c d, spi t p q, .int .i64 m] w fun e w' => e = .returned (.tuple #[.int .i64 N2, .int .i64 0]) ∧ Gr w w' := by
  obtain ⟨hs, ⟨t1, t2⟩, hp, _, _⟩ := sdB_all h
  obtain ⟨m1, m2⟩ := in_bd hm
  obtain ⟨⟨T1, T1'⟩, okP⟩ := mv_ok hp _ _ _ _ r1 rfl
  have HS := hid hs; have HP := hid hp; clear hs hp
  have h := hid h; have hm := hid hm
  have R1 := hid r1; have R2 := hid r2; have OP := hid okP; clear r1 r2 okP
  go_enter Try.func28, Try.ntmps28
  go_wp2_with fail
  refine (sspin_T _ _ _ _ _ _ _ _ _ _ _ (hid (alloc2 (Gr.refl _)).1) (hid (alloc2 (Gr.refl _)).2.1) h.out).mono ?_
  rintro e w1 ⟨rfl, hg1⟩
  obtain ⟨x1_0, x1_1, hz1, g1⟩ := alloc2 hg1
  obtain ⟨_, _, _, _, _⟩ := cells5 x1_0
  have _ := fz x1_0
  have _ := ltb x1_0
  obtain ⟨_, _, _⟩ := cells3 x1_1
  have _ := fz x1_1
  have _ := ltb x1_1
  have X1_0 := hid x1_0; clear x1_0
  have X1_1 := hid x1_1; clear x1_1
  have G1 := hid (g1)
  clear hg1 g1
  go_wp2_with fail
  refine (in_t _ _ _ _ hm.out).mono ?_
  rintro e w2 ⟨rfl, hg2⟩
  have x2_1 := hg2.keep X1_0.out
  have x2_2 := hg2.keep X1_1.out
  obtain ⟨_, _, _, _, _⟩ := cells5 x2_1
  have _ := fz x2_1
  have _ := ltb x2_1
  obtain ⟨_, _, _⟩ := cells3 x2_2
  have _ := fz x2_2
  have _ := ltb x2_2
  have X2_1 := hid x2_1; clear x2_1
  have X2_2 := hid x2_2; clear x2_2
  have G2 := hid (G1.out.trans hg2)
  clear hg2
  go_wp2_with fail
  refine (smovesV _ _ _ _ _ _ _ _ _ _ _ _ (hid X2_1.out) HS.out HP.out t1 t2 (by omega) (by omega) m1 m2 _ _ _ _ _ R1.out).mono ?_
  rintro e w3 ⟨rfl, hg3⟩
  have x3_1 := hg3.keep X2_1.out
  have x3_2 := hg3.keep X2_2.out
  obtain ⟨_, _, _, _, _⟩ := cells5 x3_1
  have _ := fz x3_1
  have _ := ltb x3_1
  obtain ⟨_, _, _⟩ := cells3 x3_2
  have _ := fz x3_2
  have _ := ltb x3_2
  have X3_1 := hid x3_1; clear x3_1
  have X3_2 := hid x3_2; clear x3_2
  have G3 := hid (G2.out.trans hg3)
  clear hg3
  go_wp2_with fail
  refine (smovesV _ _ _ _ _ _ _ _ _ _ _ _ (hid (((Gr.refl _).al _).keep X3_1.out)) HS.out OP.out T1 T1' (by omega) (by omega) m1 m2 _ _ _ _ _ R2.out).mono ?_
  rintro e w4 ⟨rfl, hg4⟩
  obtain ⟨x4_0, hz4, g4⟩ := alloc1 hg4
  have x4_1 := g4.keep X3_1.out
  have x4_2 := g4.keep X3_2.out
  obtain ⟨_, _, _, _, _⟩ := cells5 x4_1
  have _ := fz x4_1
  have _ := ltb x4_1
  obtain ⟨_, _, _⟩ := cells3 x4_2
  have _ := fz x4_2
  have _ := ltb x4_2
  obtain ⟨_, _, _⟩ := cells3 x4_0
  have _ := fz x4_0
  have _ := ltb x4_0
  have X4_1 := hid x4_1; clear x4_1
  have X4_2 := hid x4_2; clear x4_2
  have X4_0 := hid x4_0; clear x4_0
  have G4 := hid (G3.out.trans g4)
  clear hg4 g4
  go_wp2
  go_ret2
  exact ⟨rfl, (G4.out).al _⟩
set_option maxRecDepth 20000 in
set_option maxHeartbeats 400000 in
theorem iPlay_no (a b n c d t p q m : Int) (w : World) (h : sdB a b n c d t p q = false) :
    Calls Try.prog 29 #[sc a b n c d, spi t p q, .int .i64 m] w fun e w' => e = .returned (.tuple #[.int .i64 0, .int .i64 1]) ∧ Gr w w' := by
  have h := hid h
  go_enter Try.func29, Try.ntmps29
  go_wp2_with fail
  refine (ispin_F _ _ _ _ _ _ _ _ _ h.out).mono ?_
  rintro e w1 ⟨rfl, hg1⟩
  obtain ⟨x1_0, x1_1, hz1, g1⟩ := alloc2 hg1
  obtain ⟨_, _, _, _, _⟩ := cells5 x1_0
  have _ := fz x1_0
  have _ := ltb x1_0
  obtain ⟨_, _, _⟩ := cells3 x1_1
  have _ := fz x1_1
  have _ := ltb x1_1
  have X1_0 := hid x1_0; clear x1_0
  have X1_1 := hid x1_1; clear x1_1
  have G1 := hid (g1)
  clear hg1 g1
  go_wp2
  go_ret2
  exact ⟨rfl, G1.out⟩
set_option maxRecDepth 20000 in
set_option maxHeartbeats 400000 in
theorem iPlay_rng (a b n c d t p q m : Int) (w : World) (h : sdB a b n c d t p q = true) (hm : inB m 0 10000 = false) :
    Calls Try.prog 29 #[sc a b n c d, spi t p q, .int .i64 m] w fun e w' => e = .returned (.tuple #[.int .i64 0, .int .i64 2]) ∧ Gr w w' := by
  have h := hid h; have hm := hid hm
  go_enter Try.func29, Try.ntmps29
  go_wp2_with fail
  refine (ispin_T _ _ _ _ _ _ _ _ _ h.out).mono ?_
  rintro e w1 ⟨rfl, hg1⟩
  obtain ⟨x1_0, x1_1, hz1, g1⟩ := alloc2 hg1
  obtain ⟨_, _, _, _, _⟩ := cells5 x1_0
  have _ := fz x1_0
  have _ := ltb x1_0
  obtain ⟨_, _, _⟩ := cells3 x1_1
  have _ := fz x1_1
  have _ := ltb x1_1
  have X1_0 := hid x1_0; clear x1_0
  have X1_1 := hid x1_1; clear x1_1
  have G1 := hid (g1)
  clear hg1 g1
  go_wp2_with fail
  refine (icount_f _ _ hm.out).mono ?_
  rintro e w2 ⟨rfl, hg2⟩
  have x2_1 := hg2.keep X1_0.out
  have x2_2 := hg2.keep X1_1.out
  obtain ⟨_, _, _, _, _⟩ := cells5 x2_1
  have _ := fz x2_1
  have _ := ltb x2_1
  obtain ⟨_, _, _⟩ := cells3 x2_2
  have _ := fz x2_2
  have _ := ltb x2_2
  have X2_1 := hid x2_1; clear x2_1
  have X2_2 := hid x2_2; clear x2_2
  have G2 := hid (G1.out.trans hg2)
  clear hg2
  go_wp2
  go_ret2
  exact ⟨rfl, G2.out⟩
set_option maxRecDepth 20000 in
set_option maxHeartbeats 400000 in
theorem iPlay_e1 (a b n c d t p q m : Int) (w : World) (h : sdB a b n c d t p q = true) (hm : inB m 0 10000 = true) (T P Q N C : Int) (r1 : mv a b n c d p q 1 m.toNat t 0 = ⟨T, P, Q, N, C⟩) (hC : C ≠ 0) :
    Calls Try.prog 29 #[sc a b n c d, spi t p q, .int .i64 m] w fun e w' => e = .returned (.tuple #[.int .i64 0, .int .i64 C]) ∧ Gr w w' := by
  have c1 : ((C : Int) == 0) = false := by simpa using hC
  have c2 : ((C : Int) != 0) = true := by simpa using hC
  clear hC
  obtain ⟨hs, ⟨t1, t2⟩, hp, _, _⟩ := sdB_all h
  obtain ⟨m1, m2⟩ := in_bd hm
  have HS := hid hs; have HP := hid hp; clear hs hp
  have h := hid h; have hm := hid hm
  have R1 := hid r1; clear r1
  go_enter Try.func29, Try.ntmps29
  go_wp2_with fail
  refine (ispin_T _ _ _ _ _ _ _ _ _ h.out).mono ?_
  rintro e w1 ⟨rfl, hg1⟩
  obtain ⟨x1_0, x1_1, hz1, g1⟩ := alloc2 hg1
  obtain ⟨_, _, _, _, _⟩ := cells5 x1_0
  have _ := fz x1_0
  have _ := ltb x1_0
  obtain ⟨_, _, _⟩ := cells3 x1_1
  have _ := fz x1_1
  have _ := ltb x1_1
  have X1_0 := hid x1_0; clear x1_0
  have X1_1 := hid x1_1; clear x1_1
  have G1 := hid (g1)
  clear hg1 g1
  go_wp2_with fail
  refine (icount_t _ _ hm.out).mono ?_
  rintro e w2 ⟨rfl, hg2⟩
  have x2_1 := hg2.keep X1_0.out
  have x2_2 := hg2.keep X1_1.out
  obtain ⟨_, _, _, _, _⟩ := cells5 x2_1
  have _ := fz x2_1
  have _ := ltb x2_1
  obtain ⟨_, _, _⟩ := cells3 x2_2
  have _ := fz x2_2
  have _ := ltb x2_2
  have X2_1 := hid x2_1; clear x2_1
  have X2_2 := hid x2_2; clear x2_2
  have G2 := hid (G1.out.trans hg2)
  clear hg2
  go_wp2_with fail
  refine (imovesV _ _ _ _ _ _ _ _ _ _ _ HS.out HP.out t1 t2 (by omega) (by omega) m1 m2 _ _ _ _ _ R1.out).mono ?_
  rintro e w3 ⟨rfl, hg3⟩
  have x3_1 := hg3.keep X2_1.out
  have x3_2 := hg3.keep X2_2.out
  obtain ⟨_, _, _, _, _⟩ := cells5 x3_1
  have _ := fz x3_1
  have _ := ltb x3_1
  obtain ⟨_, _, _⟩ := cells3 x3_2
  have _ := fz x3_2
  have _ := ltb x3_2
  have X3_1 := hid x3_1; clear x3_1
  have X3_2 := hid x3_2; clear x3_2
  have G3 := hid (G2.out.trans hg3)
  clear hg3
  go_wp2
  go_ret2
  exact ⟨rfl, (G3.out).al _⟩
set_option maxRecDepth 20000 in
set_option maxHeartbeats 400000 in
theorem iPlay_y (a b n c d t p q m : Int) (w : World) (h : sdB a b n c d t p q = true) (hm : inB m 0 10000 = true) (T P Q N : Int) (r1 : mv a b n c d p q 1 m.toNat t 0 = ⟨T, P, Q, N, 0⟩) (T2 P2 Q2 N2 C : Int) (r2 : mv a b n c d P Q (-1) m.toNat T 0 = ⟨T2, P2, Q2, N2, C⟩) :
    Calls Try.prog 29 #[sc a b n c d, spi t p q, .int .i64 m] w fun e w' => e = .returned (.tuple #[.int .i64 N2, .int .i64 C]) ∧ Gr w w' := by
  obtain ⟨hs, ⟨t1, t2⟩, hp, _, _⟩ := sdB_all h
  obtain ⟨m1, m2⟩ := in_bd hm
  obtain ⟨⟨T1, T1'⟩, okP⟩ := mv_ok hp _ _ _ _ r1 rfl
  have HS := hid hs; have HP := hid hp; clear hs hp
  have h := hid h; have hm := hid hm
  have R1 := hid r1; have R2 := hid r2; have OP := hid okP; clear r1 r2 okP
  go_enter Try.func29, Try.ntmps29
  go_wp2_with fail
  refine (ispin_T _ _ _ _ _ _ _ _ _ h.out).mono ?_
  rintro e w1 ⟨rfl, hg1⟩
  obtain ⟨x1_0, x1_1, hz1, g1⟩ := alloc2 hg1
  obtain ⟨_, _, _, _, _⟩ := cells5 x1_0
  have _ := fz x1_0
  have _ := ltb x1_0
  obtain ⟨_, _, _⟩ := cells3 x1_1
  have _ := fz x1_1
  have _ := ltb x1_1
  have X1_0 := hid x1_0; clear x1_0
  have X1_1 := hid x1_1; clear x1_1
  have G1 := hid (g1)
  clear hg1 g1
  go_wp2_with fail
  refine (icount_t _ _ hm.out).mono ?_
  rintro e w2 ⟨rfl, hg2⟩
  have x2_1 := hg2.keep X1_0.out
  have x2_2 := hg2.keep X1_1.out
  obtain ⟨_, _, _, _, _⟩ := cells5 x2_1
  have _ := fz x2_1
  have _ := ltb x2_1
  obtain ⟨_, _, _⟩ := cells3 x2_2
  have _ := fz x2_2
  have _ := ltb x2_2
  have X2_1 := hid x2_1; clear x2_1
  have X2_2 := hid x2_2; clear x2_2
  have G2 := hid (G1.out.trans hg2)
  clear hg2
  go_wp2_with fail
  refine (imovesV _ _ _ _ _ _ _ _ _ _ _ HS.out HP.out t1 t2 (by omega) (by omega) m1 m2 _ _ _ _ _ R1.out).mono ?_
  rintro e w3 ⟨rfl, hg3⟩
  have x3_1 := hg3.keep X2_1.out
  have x3_2 := hg3.keep X2_2.out
  obtain ⟨_, _, _, _, _⟩ := cells5 x3_1
  have _ := fz x3_1
  have _ := ltb x3_1
  obtain ⟨_, _, _⟩ := cells3 x3_2
  have _ := fz x3_2
  have _ := ltb x3_2
  have X3_1 := hid x3_1; clear x3_1
  have X3_2 := hid x3_2; clear x3_2
  have G3 := hid (G2.out.trans hg3)
  clear hg3
  go_wp2_with fail
  refine (imovesV _ _ _ _ _ _ _ _ _ _ _ HS.out OP.out T1 T1' (by omega) (by omega) m1 m2 _ _ _ _ _ R2.out).mono ?_
  rintro e w4 ⟨rfl, hg4⟩
  obtain ⟨x4_0, hz4, g4⟩ := alloc1 hg4
  have x4_1 := g4.keep X3_1.out
  have x4_2 := g4.keep X3_2.out
  obtain ⟨_, _, _, _, _⟩ := cells5 x4_1
  have _ := fz x4_1
  have _ := ltb x4_1
  obtain ⟨_, _, _⟩ := cells3 x4_2
  have _ := fz x4_2
  have _ := ltb x4_2
  obtain ⟨_, _, _⟩ := cells3 x4_0
  have _ := fz x4_0
  have _ := ltb x4_0
  have X4_1 := hid x4_1; clear x4_1
  have X4_2 := hid x4_2; clear x4_2
  have X4_0 := hid x4_0; clear x4_0
  have G4 := hid (G3.out.trans g4)
  clear hg4 g4
  go_wp2
  go_ret2
  exact ⟨rfl, (G4.out).al _⟩
theorem bothPlayFound (a b n c d t p q m : Int) : ∃ R C : Int, (∀ w, Calls Try.prog 28 #[sc a b n c d, spi t p q, .int .i64 m] w fun e w' => e = .returned (.tuple #[.int .i64 R, .int .i64 C]) ∧ Gr w w') ∧ (∀ w, Calls Try.prog 29 #[sc a b n c d, spi t p q, .int .i64 m] w fun e w' => e = .returned (.tuple #[.int .i64 R, .int .i64 C]) ∧ Gr w w') := by
  cases h : sdB a b n c d t p q with
  | false => exact ⟨0, 1, fun w => sPlay_no _ _ _ _ _ _ _ _ _ w h, fun w => iPlay_no _ _ _ _ _ _ _ _ _ w h⟩
  | true =>
    cases hm : inB m 0 10000 with
    | false => exact ⟨0, 2, fun w => sPlay_rng _ _ _ _ _ _ _ _ _ w h hm, fun w => iPlay_rng _ _ _ _ _ _ _ _ _ w h hm⟩
    | true =>
      obtain ⟨⟨T, P, Q, N, C⟩, r1⟩ : ∃ r, mv a b n c d p q 1 m.toNat t 0 = r := ⟨_, rfl⟩
      by_cases hC : C = 0
      · subst hC
        obtain ⟨⟨T2, P2, Q2, N2, C⟩, r2⟩ : ∃ r, mv a b n c d P Q (-1) m.toNat T 0 = r := ⟨_, rfl⟩
        by_cases hC : C = 0
        · subst hC
          exact ⟨N2, 0, fun w => sPlay_y _ _ _ _ _ _ _ _ _ w h hm _ _ _ _ r1 _ _ _ _ r2, fun w => iPlay_y _ _ _ _ _ _ _ _ _ w h hm _ _ _ _ r1 _ _ _ _ _ r2⟩
        · have hn : N2 = 0 := mv_n _ _ _ _ r2 hC
          subst hn
          exact ⟨0, C, fun w => sPlay_e2 _ _ _ _ _ _ _ _ _ w h hm _ _ _ _ r1 _ _ _ _ _ r2 hC, fun w => iPlay_y _ _ _ _ _ _ _ _ _ w h hm _ _ _ _ r1 _ _ _ _ _ r2⟩
      · exact ⟨0, C, fun w => sPlay_e1 _ _ _ _ _ _ _ _ _ w h hm _ _ _ _ _ r1 hC, fun w => iPlay_e1 _ _ _ _ _ _ _ _ _ w h hm _ _ _ _ _ r1 hC⟩
end Go.Proofs.Ytjcebojmfoppaaa
