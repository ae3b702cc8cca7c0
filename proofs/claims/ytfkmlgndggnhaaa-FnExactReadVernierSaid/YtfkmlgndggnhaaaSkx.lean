/- WALKS: ReadVernier: the two sides joined. -/
import Derived.Test.YtfkmlgndggnhaaaSkw
namespace Go.Proofs.Ytfkmlgndggnhaaa
open Go.RowKit Go.Sort

set_option maxHeartbeats 1000000 in
theorem rd_a (a b x y : Int) (R N : Nat) (hab : okB a b = true) (ha : 0 < a) (hx : okB x y = true) (n1 : 2 ≤ N) (hN : N ≤ 40) (hRN : R < N) :
    ∃ (B : Bool) (P Q : Int),
    (∀ (A : Option Addr) (c : Nat) (xs : List (Int × Int)) (w : World), Hid (RdF w A xs) → (∀ w, Hid (RdF w A xs) → Calls Try.prog 95 #[vn N false, scl a b A xs.length c, fr x y] w fun e w' => e = .returned (.int .i64 (R : Int)) ∧ Gr w w') → Calls Try.prog 98 #[vn N false, scl a b A xs.length c, fr x y] w (ResI B P Q w)) ∧
    (∀ (A : Option Addr) (c : Nat) (xs : List (Int × Int)) (w : World) (k1 k2 : Nat), Hid (w.heap[k1]? = some (.cells #[.int .i64 a, .int .i64 b, .slice A xs.length c] 32)) → Hid (w.heap[k2]? = some (.cells #[.int .i64 N, .bool false] 53)) → (∀ w', Gr w w' → Calls Try.prog 92 #[.pointer (some ⟨k1, 0, none⟩), .pointer (some ⟨k2, 0, none⟩), fr x y] w' fun e w'' => e = .returned (.tuple #[.int .i64 (R : Int), .int .i64 0]) ∧ Gr w' w'') → Calls Try.prog 96 #[.pointer (some ⟨k1, 0, none⟩), .pointer (some ⟨k2, 0, none⟩), fr x y] w (ResS B P Q w)) := by
  have hs : okB (redP (R : Int) N) (redQ (R : Int) N) = true := red_small (by omega) (by omega) (by omega) (by omega)
  have hLW0 := fun w => low_ok (R : Int) N w (by omega) (by omega) (by omega) (by omega) (by omega) hs
  have hDV0 := fun w => sdiv_t (R : Int) 1 N 1 w (ok_whole (by omega) (by omega)) (ok_whole (by omega) (by omega)) (by omega) (by rw [Int.mul_one, Int.one_mul]; exact hs)
  simp only [Int.mul_one, Int.one_mul] at hDV0
  obtain ⟨g0, hg0⟩ : ∃ g, redP (R : Int) N = g := ⟨_, rfl⟩
  obtain ⟨g1, hg1⟩ : ∃ g, redQ (R : Int) N = g := ⟨_, rfl⟩
  rw [hg0, hg1] at hs hLW0 hDV0
  have bad : ∀ {f : Nat} {args : Array Value} {w : World}, (Calls Try.prog f args w fun e w' => (∃ x y, e = .panicked [{ v := .iface 125 (fr x y), recovered := false }]) ∧ Gr w w') → Calls Try.prog f args w (ResI false 0 0 w) := fun h => h.mono fun e w' h => ⟨fun h => (by cases h), fun _ => h.1, h.2⟩
  cases h1 : okB (redP (g0 * a) (g1 * b)) (redQ (g0 * a) (g1 * b)) with
  | false => exact ⟨false, 0, 0, fun A c xs w X hLF => bad (ird_a0 a b x y _ _ R N A c xs w X hRN hN hLF hLW0 fun w => times_no _ _ _ _ w hs hab h1), fun A c xs w k1 k2 X1 X2 hLF => srd_a0 a b x y _ _ R N A c xs w k1 k2 X1 X2 hRN hN hLF hDV0 fun w => smul_f _ _ _ _ w hs hab h1⟩
  | true =>
  have hTM := fun w => times_yes _ _ _ _ w hs hab h1
  have hML := fun w => smul_t _ _ _ _ w hs hab h1
  obtain ⟨p0, hp0⟩ : ∃ p, redP (g0 * a) (g1 * b) = p := ⟨_, rfl⟩
  obtain ⟨p1, hp1⟩ : ∃ p, redQ (g0 * a) (g1 * b) = p := ⟨_, rfl⟩
  rw [hp0, hp1] at h1 hTM hML
  cases h2 : okB (redP (x * p1 - p0 * y) (y * p1)) (redQ (x * p1 - p0 * y) (y * p1)) with
  | false => exact ⟨false, 0, 0, fun A c xs w X hLF => bad (ird_a1 a b x y _ _ _ _ R N A c xs w X hRN hN hLF hLW0 hTM fun w => minus_no _ _ _ _ w hx h1 h2), fun A c xs w k1 k2 X1 X2 hLF => srd_a1 a b x y _ _ _ _ R N A c xs w k1 k2 X1 X2 hRN hN hLF hDV0 hML fun w => ssub_f _ _ _ _ w hx h1 h2⟩
  | true =>
  have hMN := fun w => minus_yes _ _ _ _ w hx h1 h2
  have hSB := fun w => ssub_t _ _ _ _ w hx h1 h2
  obtain ⟨d0, hd0⟩ : ∃ p, redP (x * p1 - p0 * y) (y * p1) = p := ⟨_, rfl⟩
  obtain ⟨d1, hd1⟩ : ∃ p, redQ (x * p1 - p0 * y) (y * p1) = p := ⟨_, rfl⟩
  rw [hd0, hd1] at h2 hMN hSB
  obtain ⟨⟨q0, q1⟩, q2, q3⟩ := near_bd h2 hab ha
  have hNE := fun w => sNear d0 d1 a b w q0 q1 q2 q3
  obtain ⟨nn, hnn⟩ : ∃ n, nearI d0 d1 a b = n := ⟨_, rfl⟩
  have hgt := nr_gt (n := nn)
  cases h3 : inB nn (-1000000000) 1000000000 with
  | false =>
    have hNR := fun w => inear_bad d0 d1 a b w q0 q1 q2 q3 (by rw [hnn, hgt, h3]; rfl)
    rw [hnn] at hNE
    exact ⟨false, 0, 0, fun A c xs w X hLF => bad (ird_a2 a b x y _ _ _ _ _ _ R N A c xs w X hRN hN hLF hLW0 hTM hMN hNR), fun A c xs w k1 k2 X1 X2 hLF => srd_a2 a b x y _ _ _ _ _ _ _ R N A c xs w k1 k2 X1 X2 hRN hN hLF hDV0 hML hSB hNE fun w => (sInteger_no nn w h3).mono fun e w' h => ⟨h.1, h.2 ▸ Gr.refl w⟩⟩
  | true =>
  have hNR := fun w => inear_ok d0 d1 a b w q0 q1 q2 q3 (by rw [hnn, hgt, h3]; rfl)
  rw [hnn] at hNE hNR
  have hIN := fun w => (sInteger_yes nn w h3).mono (R' := fun e w' => e = .returned (.tuple #[.int .i64 nn, .int .i64 0]) ∧ Gr w w') fun e w' h => ⟨h.1, h.2 ▸ Gr.refl w⟩
  have hno : okB nn 1 = true := ok_whole (in_bd h3).1 (in_bd h3).2
  cases h4 : n1B a b nn with
  | false => exact ⟨false, 0, 0, fun A c xs w X hLF => bad (ird_a3 a b x y _ _ _ _ _ _ _ R N A c xs w X hRN hN hLF hLW0 hTM hMN hNR fun w => itw_bad a b nn w hab hno h4), fun A c xs w k1 k2 X1 X2 hLF => srd_a3 a b x y _ _ _ _ _ _ _ R N A c xs w k1 k2 X1 X2 hRN hN hLF hDV0 hML hSB hNE hIN fun w => smul_f nn 1 a b w hno hab h4⟩
  | true =>
  have hTW := fun w => itw_ok a b nn w hab hno h4
  have hMW := fun w => mulw_t a b nn w hab hno h4
  obtain ⟨t0, ht0⟩ : ∃ p, n1P a b nn = p := ⟨_, rfl⟩
  obtain ⟨t1, ht1⟩ : ∃ p, n1Q a b nn = p := ⟨_, rfl⟩
  have ht : okB t0 t1 = true := by unfold n1B at h4; rwa [ht0, ht1] at h4
  rw [ht0, ht1] at hTW hMW
  cases h5 : okB (redP (p0 * t1 + t0 * p1) (p1 * t1)) (redQ (p0 * t1 + t0 * p1) (p1 * t1)) with
  | false => exact ⟨false, 0, 0, fun A c xs w X hLF => bad (ird_a4 a b x y _ _ _ _ _ _ _ _ _ R N A c xs w X hRN hN hLF hLW0 hTM hMN hNR hTW fun w => plus_no _ _ _ _ w h1 ht h5), fun A c xs w k1 k2 X1 X2 hLF => srd_a4 a b x y _ _ _ _ _ _ _ _ _ _ _ _ R N A c xs w k1 k2 X1 X2 hRN hN hLF hDV0 hML hSB hNE hIN hMW fun w => sadd_f _ _ _ _ w h1 ht h5⟩
  | true => exact ⟨true, _, _, fun A c xs w X hLF => (ird_a5 a b x y _ _ _ _ _ _ _ _ _ _ _ R N A c xs w X hRN hN hLF hLW0 hTM hMN hNR hTW fun w => plus_yes _ _ _ _ w h1 ht h5).mono fun e w' h => ⟨fun _ => h.1, fun h => (by cases h), h.2⟩, fun A c xs w k1 k2 X1 X2 hLF => srd_a4 a b x y _ _ _ _ _ _ _ _ _ _ _ _ R N A c xs w k1 k2 X1 X2 hRN hN hLF hDV0 hML hSB hNE hIN hMW fun w => sadd_t _ _ _ _ w h1 ht h5⟩
set_option maxHeartbeats 1000000 in
theorem rd_b (a b x y : Int) (N : Nat) (hab : okB a b = true) (ha : 0 < a) (hx : okB x y = true) (n1 : 2 ≤ N) (hN : N ≤ 40)  :
    ∃ (B : Bool) (P Q : Int),
    (∀ (A : Option Addr) (c : Nat) (xs : List (Int × Int)) (w : World), Hid (RdF w A xs) → (∀ w, Hid (RdF w A xs) → Calls Try.prog 95 #[vn N true, scl a b A xs.length c, fr x y] w fun e w' => e = .returned (.int .i64 0) ∧ Gr w w') → Calls Try.prog 98 #[vn N true, scl a b A xs.length c, fr x y] w (ResI B P Q w)) ∧
    (∀ (A : Option Addr) (c : Nat) (xs : List (Int × Int)) (w : World) (k1 k2 : Nat), Hid (w.heap[k1]? = some (.cells #[.int .i64 a, .int .i64 b, .slice A xs.length c] 32)) → Hid (w.heap[k2]? = some (.cells #[.int .i64 N, .bool true] 53)) → (∀ w', Gr w w' → Calls Try.prog 92 #[.pointer (some ⟨k1, 0, none⟩), .pointer (some ⟨k2, 0, none⟩), fr x y] w' fun e w'' => e = .returned (.tuple #[.int .i64 0, .int .i64 0]) ∧ Gr w' w'') → Calls Try.prog 96 #[.pointer (some ⟨k1, 0, none⟩), .pointer (some ⟨k2, 0, none⟩), fr x y] w (ResS B P Q w)) := by
  have hs : okB (redP 0 N) (redQ 0 N) = true := red_small (by omega) (by omega) (by omega) (by omega)
  have hLW0 := fun w => low_ok 0 N w (by omega) (by omega) (by omega) (by omega) (by omega) hs
  have hDV0 := fun w => sdiv_t 0 1 N 1 w (ok_whole (by omega) (by omega)) (ok_whole (by omega) (by omega)) (by omega) (by rw [Int.mul_one, Int.one_mul]; exact hs)
  simp only [Int.mul_one, Int.one_mul] at hDV0
  obtain ⟨g0, hg0⟩ : ∃ g, redP 0 N = g := ⟨_, rfl⟩
  obtain ⟨g1, hg1⟩ : ∃ g, redQ 0 N = g := ⟨_, rfl⟩
  rw [hg0, hg1] at hs hLW0 hDV0
  have bad : ∀ {f : Nat} {args : Array Value} {w : World}, (Calls Try.prog f args w fun e w' => (∃ x y, e = .panicked [{ v := .iface 125 (fr x y), recovered := false }]) ∧ Gr w w') → Calls Try.prog f args w (ResI false 0 0 w) := fun h => h.mono fun e w' h => ⟨fun h => (by cases h), fun _ => h.1, h.2⟩
  cases h1 : okB (redP (g0 * a) (g1 * b)) (redQ (g0 * a) (g1 * b)) with
  | false => exact ⟨false, 0, 0, fun A c xs w X hLF => bad (ird_b0 a b x y _ _ N A c xs w X hN hLF hLW0 fun w => times_no _ _ _ _ w hs hab h1), fun A c xs w k1 k2 X1 X2 hLF => srd_b0 a b x y _ _ N A c xs w k1 k2 X1 X2 hN hLF hDV0 fun w => smul_f _ _ _ _ w hs hab h1⟩
  | true =>
  have hTM := fun w => times_yes _ _ _ _ w hs hab h1
  have hML := fun w => smul_t _ _ _ _ w hs hab h1
  obtain ⟨p0, hp0⟩ : ∃ p, redP (g0 * a) (g1 * b) = p := ⟨_, rfl⟩
  obtain ⟨p1, hp1⟩ : ∃ p, redQ (g0 * a) (g1 * b) = p := ⟨_, rfl⟩
  rw [hp0, hp1] at h1 hTM hML
  cases h2 : okB (redP (x * p1 - p0 * y) (y * p1)) (redQ (x * p1 - p0 * y) (y * p1)) with
  | false => exact ⟨false, 0, 0, fun A c xs w X hLF => bad (ird_b1 a b x y _ _ _ _ N A c xs w X hN hLF hLW0 hTM fun w => minus_no _ _ _ _ w hx h1 h2), fun A c xs w k1 k2 X1 X2 hLF => srd_b1 a b x y _ _ _ _ N A c xs w k1 k2 X1 X2 hN hLF hDV0 hML fun w => ssub_f _ _ _ _ w hx h1 h2⟩
  | true =>
  have hMN := fun w => minus_yes _ _ _ _ w hx h1 h2
  have hSB := fun w => ssub_t _ _ _ _ w hx h1 h2
  obtain ⟨d0, hd0⟩ : ∃ p, redP (x * p1 - p0 * y) (y * p1) = p := ⟨_, rfl⟩
  obtain ⟨d1, hd1⟩ : ∃ p, redQ (x * p1 - p0 * y) (y * p1) = p := ⟨_, rfl⟩
  rw [hd0, hd1] at h2 hMN hSB
  obtain ⟨⟨q0, q1⟩, q2, q3⟩ := near_bd h2 hab ha
  have hNE := fun w => sNear d0 d1 a b w q0 q1 q2 q3
  obtain ⟨nn, hnn⟩ : ∃ n, nearI d0 d1 a b = n := ⟨_, rfl⟩
  have hgt := nr_gt (n := nn)
  cases h3 : inB nn (-1000000000) 1000000000 with
  | false =>
    have hNR := fun w => inear_bad d0 d1 a b w q0 q1 q2 q3 (by rw [hnn, hgt, h3]; rfl)
    rw [hnn] at hNE
    exact ⟨false, 0, 0, fun A c xs w X hLF => bad (ird_b2 a b x y _ _ _ _ _ _ N A c xs w X hN hLF hLW0 hTM hMN hNR), fun A c xs w k1 k2 X1 X2 hLF => srd_b2 a b x y _ _ _ _ _ _ _ N A c xs w k1 k2 X1 X2 hN hLF hDV0 hML hSB hNE fun w => (sInteger_no nn w h3).mono fun e w' h => ⟨h.1, h.2 ▸ Gr.refl w⟩⟩
  | true =>
  have hNR := fun w => inear_ok d0 d1 a b w q0 q1 q2 q3 (by rw [hnn, hgt, h3]; rfl)
  rw [hnn] at hNE hNR
  have hIN := fun w => (sInteger_yes nn w h3).mono (R' := fun e w' => e = .returned (.tuple #[.int .i64 nn, .int .i64 0]) ∧ Gr w w') fun e w' h => ⟨h.1, h.2 ▸ Gr.refl w⟩
  have hno : okB nn 1 = true := ok_whole (in_bd h3).1 (in_bd h3).2
  cases h4 : n1B a b nn with
  | false => exact ⟨false, 0, 0, fun A c xs w X hLF => bad (ird_b3 a b x y _ _ _ _ _ _ _ N A c xs w X hN hLF hLW0 hTM hMN hNR fun w => itw_bad a b nn w hab hno h4), fun A c xs w k1 k2 X1 X2 hLF => srd_b3 a b x y _ _ _ _ _ _ _ N A c xs w k1 k2 X1 X2 hN hLF hDV0 hML hSB hNE hIN fun w => smul_f nn 1 a b w hno hab h4⟩
  | true =>
  have hTW := fun w => itw_ok a b nn w hab hno h4
  have hMW := fun w => mulw_t a b nn w hab hno h4
  obtain ⟨t0, ht0⟩ : ∃ p, n1P a b nn = p := ⟨_, rfl⟩
  obtain ⟨t1, ht1⟩ : ∃ p, n1Q a b nn = p := ⟨_, rfl⟩
  have ht : okB t0 t1 = true := by unfold n1B at h4; rwa [ht0, ht1] at h4
  rw [ht0, ht1] at hTW hMW
  cases h5 : okB (redP (p0 * t1 + t0 * p1) (p1 * t1)) (redQ (p0 * t1 + t0 * p1) (p1 * t1)) with
  | false => exact ⟨false, 0, 0, fun A c xs w X hLF => bad (ird_b4 a b x y _ _ _ _ _ _ _ _ _ N A c xs w X hN hLF hLW0 hTM hMN hNR hTW fun w => plus_no _ _ _ _ w h1 ht h5), fun A c xs w k1 k2 X1 X2 hLF => srd_b4 a b x y _ _ _ _ _ _ _ _ _ _ _ _ N A c xs w k1 k2 X1 X2 hN hLF hDV0 hML hSB hNE hIN hMW fun w => sadd_f _ _ _ _ w h1 ht h5⟩
  | true => exact ⟨true, _, _, fun A c xs w X hLF => (ird_b5 a b x y _ _ _ _ _ _ _ _ _ _ _ N A c xs w X hN hLF hLW0 hTM hMN hNR hTW fun w => plus_yes _ _ _ _ w h1 ht h5).mono fun e w' h => ⟨fun _ => h.1, fun h => (by cases h), h.2⟩, fun A c xs w k1 k2 X1 X2 hLF => srd_b4 a b x y _ _ _ _ _ _ _ _ _ _ _ _ N A c xs w k1 k2 X1 X2 hN hLF hDV0 hML hSB hNE hIN hMW fun w => sadd_t _ _ _ _ w h1 ht h5⟩
set_option maxHeartbeats 1000000 in
theorem rd_c (a b x y : Int) (R N : Nat) (hab : okB a b = true) (ha : 0 < a) (hx : okB x y = true) (n1 : 2 ≤ N) (hN : N ≤ 40) (hRN : R < N) (hR0 : ((R : Int) == 0) = false) :
    ∃ (B : Bool) (P Q : Int),
    (∀ (A : Option Addr) (c : Nat) (xs : List (Int × Int)) (w : World), Hid (RdF w A xs) → (∀ w, Hid (RdF w A xs) → Calls Try.prog 95 #[vn N true, scl a b A xs.length c, fr x y] w fun e w' => e = .returned (.int .i64 (R : Int)) ∧ Gr w w') → Calls Try.prog 98 #[vn N true, scl a b A xs.length c, fr x y] w (ResI B P Q w)) ∧
    (∀ (A : Option Addr) (c : Nat) (xs : List (Int × Int)) (w : World) (k1 k2 : Nat), Hid (w.heap[k1]? = some (.cells #[.int .i64 a, .int .i64 b, .slice A xs.length c] 32)) → Hid (w.heap[k2]? = some (.cells #[.int .i64 N, .bool true] 53)) → (∀ w', Gr w w' → Calls Try.prog 92 #[.pointer (some ⟨k1, 0, none⟩), .pointer (some ⟨k2, 0, none⟩), fr x y] w' fun e w'' => e = .returned (.tuple #[.int .i64 (R : Int), .int .i64 0]) ∧ Gr w' w'') → Calls Try.prog 96 #[.pointer (some ⟨k1, 0, none⟩), .pointer (some ⟨k2, 0, none⟩), fr x y] w (ResS B P Q w)) := by
  have hs : okB (redP ((N : Int) - (R : Int)) N) (redQ ((N : Int) - (R : Int)) N) = true := red_small (by omega) (by omega) (by omega) (by omega)
  have hLW0 := fun w => low_ok ((N : Int) - (R : Int)) N w (by omega) (by omega) (by omega) (by omega) (by omega) hs
  have hDV0 := fun w => sdiv_t ((N : Int) - (R : Int)) 1 N 1 w (ok_whole (by omega) (by omega)) (ok_whole (by omega) (by omega)) (by omega) (by rw [Int.mul_one, Int.one_mul]; exact hs)
  simp only [Int.mul_one, Int.one_mul] at hDV0
  obtain ⟨g0, hg0⟩ : ∃ g, redP ((N : Int) - (R : Int)) N = g := ⟨_, rfl⟩
  obtain ⟨g1, hg1⟩ : ∃ g, redQ ((N : Int) - (R : Int)) N = g := ⟨_, rfl⟩
  rw [hg0, hg1] at hs hLW0 hDV0
  have bad : ∀ {f : Nat} {args : Array Value} {w : World}, (Calls Try.prog f args w fun e w' => (∃ x y, e = .panicked [{ v := .iface 125 (fr x y), recovered := false }]) ∧ Gr w w') → Calls Try.prog f args w (ResI false 0 0 w) := fun h => h.mono fun e w' h => ⟨fun h => (by cases h), fun _ => h.1, h.2⟩
  cases h1 : okB (redP (g0 * a) (g1 * b)) (redQ (g0 * a) (g1 * b)) with
  | false => exact ⟨false, 0, 0, fun A c xs w X hLF => bad (ird_c0 a b x y _ _ R N A c xs w X hRN hN hR0 hLF hLW0 fun w => times_no _ _ _ _ w hs hab h1), fun A c xs w k1 k2 X1 X2 hLF => srd_c0 a b x y _ _ R N A c xs w k1 k2 X1 X2 hRN hN hR0 hLF hDV0 fun w => smul_f _ _ _ _ w hs hab h1⟩
  | true =>
  have hTM := fun w => times_yes _ _ _ _ w hs hab h1
  have hML := fun w => smul_t _ _ _ _ w hs hab h1
  obtain ⟨p0, hp0⟩ : ∃ p, redP (g0 * a) (g1 * b) = p := ⟨_, rfl⟩
  obtain ⟨p1, hp1⟩ : ∃ p, redQ (g0 * a) (g1 * b) = p := ⟨_, rfl⟩
  rw [hp0, hp1] at h1 hTM hML
  cases h2 : okB (redP (x * p1 - p0 * y) (y * p1)) (redQ (x * p1 - p0 * y) (y * p1)) with
  | false => exact ⟨false, 0, 0, fun A c xs w X hLF => bad (ird_c1 a b x y _ _ _ _ R N A c xs w X hRN hN hR0 hLF hLW0 hTM fun w => minus_no _ _ _ _ w hx h1 h2), fun A c xs w k1 k2 X1 X2 hLF => srd_c1 a b x y _ _ _ _ R N A c xs w k1 k2 X1 X2 hRN hN hR0 hLF hDV0 hML fun w => ssub_f _ _ _ _ w hx h1 h2⟩
  | true =>
  have hMN := fun w => minus_yes _ _ _ _ w hx h1 h2
  have hSB := fun w => ssub_t _ _ _ _ w hx h1 h2
  obtain ⟨d0, hd0⟩ : ∃ p, redP (x * p1 - p0 * y) (y * p1) = p := ⟨_, rfl⟩
  obtain ⟨d1, hd1⟩ : ∃ p, redQ (x * p1 - p0 * y) (y * p1) = p := ⟨_, rfl⟩
  rw [hd0, hd1] at h2 hMN hSB
  obtain ⟨⟨q0, q1⟩, q2, q3⟩ := near_bd h2 hab ha
  have hNE := fun w => sNear d0 d1 a b w q0 q1 q2 q3
  obtain ⟨nn, hnn⟩ : ∃ n, nearI d0 d1 a b = n := ⟨_, rfl⟩
  have hgt := nr_gt (n := nn)
  cases h3 : inB nn (-1000000000) 1000000000 with
  | false =>
    have hNR := fun w => inear_bad d0 d1 a b w q0 q1 q2 q3 (by rw [hnn, hgt, h3]; rfl)
    rw [hnn] at hNE
    exact ⟨false, 0, 0, fun A c xs w X hLF => bad (ird_c2 a b x y _ _ _ _ _ _ R N A c xs w X hRN hN hR0 hLF hLW0 hTM hMN hNR), fun A c xs w k1 k2 X1 X2 hLF => srd_c2 a b x y _ _ _ _ _ _ _ R N A c xs w k1 k2 X1 X2 hRN hN hR0 hLF hDV0 hML hSB hNE fun w => (sInteger_no nn w h3).mono fun e w' h => ⟨h.1, h.2 ▸ Gr.refl w⟩⟩
  | true =>
  have hNR := fun w => inear_ok d0 d1 a b w q0 q1 q2 q3 (by rw [hnn, hgt, h3]; rfl)
  rw [hnn] at hNE hNR
  have hIN := fun w => (sInteger_yes nn w h3).mono (R' := fun e w' => e = .returned (.tuple #[.int .i64 nn, .int .i64 0]) ∧ Gr w w') fun e w' h => ⟨h.1, h.2 ▸ Gr.refl w⟩
  have hno : okB nn 1 = true := ok_whole (in_bd h3).1 (in_bd h3).2
  cases h4 : n1B a b nn with
  | false => exact ⟨false, 0, 0, fun A c xs w X hLF => bad (ird_c3 a b x y _ _ _ _ _ _ _ R N A c xs w X hRN hN hR0 hLF hLW0 hTM hMN hNR fun w => itw_bad a b nn w hab hno h4), fun A c xs w k1 k2 X1 X2 hLF => srd_c3 a b x y _ _ _ _ _ _ _ R N A c xs w k1 k2 X1 X2 hRN hN hR0 hLF hDV0 hML hSB hNE hIN fun w => smul_f nn 1 a b w hno hab h4⟩
  | true =>
  have hTW := fun w => itw_ok a b nn w hab hno h4
  have hMW := fun w => mulw_t a b nn w hab hno h4
  obtain ⟨t0, ht0⟩ : ∃ p, n1P a b nn = p := ⟨_, rfl⟩
  obtain ⟨t1, ht1⟩ : ∃ p, n1Q a b nn = p := ⟨_, rfl⟩
  have ht : okB t0 t1 = true := by unfold n1B at h4; rwa [ht0, ht1] at h4
  rw [ht0, ht1] at hTW hMW
  cases h5 : okB (redP (p0 * t1 + t0 * p1) (p1 * t1)) (redQ (p0 * t1 + t0 * p1) (p1 * t1)) with
  | false => exact ⟨false, 0, 0, fun A c xs w X hLF => bad (ird_c4 a b x y _ _ _ _ _ _ _ _ _ R N A c xs w X hRN hN hR0 hLF hLW0 hTM hMN hNR hTW fun w => plus_no _ _ _ _ w h1 ht h5), fun A c xs w k1 k2 X1 X2 hLF => srd_c4 a b x y _ _ _ _ _ _ _ _ _ _ _ _ R N A c xs w k1 k2 X1 X2 hRN hN hR0 hLF hDV0 hML hSB hNE hIN hMW fun w => sadd_f _ _ _ _ w h1 ht h5⟩
  | true => exact ⟨true, _, _, fun A c xs w X hLF => (ird_c5 a b x y _ _ _ _ _ _ _ _ _ _ _ R N A c xs w X hRN hN hR0 hLF hLW0 hTM hMN hNR hTW fun w => plus_yes _ _ _ _ w h1 ht h5).mono fun e w' h => ⟨fun _ => h.1, fun h => (by cases h), h.2⟩, fun A c xs w k1 k2 X1 X2 hLF => srd_c4 a b x y _ _ _ _ _ _ _ _ _ _ _ _ R N A c xs w k1 k2 X1 X2 hRN hN hR0 hLF hDV0 hML hSB hNE hIN hMW fun w => sadd_t _ _ _ _ w h1 ht h5⟩
theorem rd_all (a b x y : Int) (R N : Nat) (r : Bool) (hab : okB a b = true) (ha : 0 < a) (hx : okB x y = true) (n1 : 2 ≤ N) (hN : N ≤ 40) (hRN : R < N) :
    ∃ (B : Bool) (P Q : Int),
    (∀ (A : Option Addr) (c : Nat) (xs : List (Int × Int)) (w : World), Hid (RdF w A xs) → (∀ w, Hid (RdF w A xs) → Calls Try.prog 95 #[vn N r, scl a b A xs.length c, fr x y] w fun e w' => e = .returned (.int .i64 (R : Int)) ∧ Gr w w') → Calls Try.prog 98 #[vn N r, scl a b A xs.length c, fr x y] w (ResI B P Q w)) ∧
    (∀ (A : Option Addr) (c : Nat) (xs : List (Int × Int)) (w : World) (k1 k2 : Nat), Hid (w.heap[k1]? = some (.cells #[.int .i64 a, .int .i64 b, .slice A xs.length c] 32)) → Hid (w.heap[k2]? = some (.cells #[.int .i64 N, .bool r] 53)) → (∀ w', Gr w w' → Calls Try.prog 92 #[.pointer (some ⟨k1, 0, none⟩), .pointer (some ⟨k2, 0, none⟩), fr x y] w' fun e w'' => e = .returned (.tuple #[.int .i64 (R : Int), .int .i64 0]) ∧ Gr w' w'') → Calls Try.prog 96 #[.pointer (some ⟨k1, 0, none⟩), .pointer (some ⟨k2, 0, none⟩), fr x y] w (ResS B P Q w)) := by
  cases r with
  | false => exact rd_a a b x y R N hab ha hx n1 hN hRN
  | true =>
    by_cases h : R = 0
    · subst h
      exact rd_b a b x y N hab ha hx n1 hN
    · exact rd_c a b x y R N hab ha hx n1 hN hRN (by simpa using h)

set_option maxRecDepth 20000 in
set_option maxHeartbeats 400000 in
theorem ird_x (a b x y n : Int) (r : Bool) (A : Option Addr) (c : Nat) (xs : List (Int × Int)) (w : World) (X : Hid (RdF w A xs))
    (hLF : ∀ w, Hid (RdF w A xs) → Calls Try.prog 95 #[vn n r, scl a b A xs.length c, fr x y] w fun e w' => (∃ x y, e = .panicked [{ v := .iface 125 (fr x y), recovered := false }]) ∧ Gr w w') :
    Calls Try.prog 98 #[vn n r, scl a b A xs.length c, fr x y] w fun e w' => (∃ x y, e = .panicked [{ v := .iface 125 (fr x y), recovered := false }]) ∧ Gr w w' := by
  have hLF := hid hLF
  go_enter Try.func98, Try.ntmps98
  go_wp2_with fail
  refine (hLF.out _ (hid (X.out.keep (((((Gr.refl w).al _).al _).al _).al _)))).mono ?_
  rintro e w1 ⟨⟨xp, yp, rfl⟩, hg1⟩
  obtain ⟨x1_0, x1_1, x1_2, x1_3, hz1, g1⟩ := alloc4 hg1
  obtain ⟨_, _⟩ := cells2 x1_0
  have _ := fz x1_0
  have _ := ltb x1_0
  obtain ⟨_, _, _⟩ := cells3 x1_1
  have _ := fz x1_1
  have _ := ltb x1_1
  obtain ⟨_, _⟩ := cells2 x1_2
  have _ := fz x1_2
  have _ := ltb x1_2
  obtain ⟨_, _⟩ := cells2 x1_3
  have _ := fz x1_3
  have _ := ltb x1_3
  have X1_0 := hid x1_0; clear x1_0
  have X1_1 := hid x1_1; clear x1_1
  have X1_2 := hid x1_2; clear x1_2
  have X1_3 := hid x1_3; clear x1_3
  have G1 := hid (g1)
  clear hg1 g1
  exact ⟨rfl, ⟨xp, yp, rfl⟩, G1.out⟩
set_option maxRecDepth 20000 in
set_option maxHeartbeats 400000 in
theorem srd_x (a b x y n C : Int) (r : Bool) (A : Option Addr) (c : Nat) (xs : List (Int × Int)) (w : World) (k1 k2 : Nat) (X1 : Hid (w.heap[k1]? = some (.cells #[.int .i64 a, .int .i64 b, .slice A xs.length c] 32))) (X2 : Hid (w.heap[k2]? = some (.cells #[.int .i64 n, .bool r] 53))) (hC : (C == 0) = false)
    (hLF : ∀ w', Gr w w' → Calls Try.prog 92 #[.pointer (some ⟨k1, 0, none⟩), .pointer (some ⟨k2, 0, none⟩), fr x y] w' fun e w'' => e = .returned (.tuple #[.int .i64 0, .int .i64 C]) ∧ Gr w' w'') :
    Calls Try.prog 96 #[.pointer (some ⟨k1, 0, none⟩), .pointer (some ⟨k2, 0, none⟩), fr x y] w fun e w' => e = .returned (.tuple #[fr 0 0, .int .i64 C]) ∧ Gr w w' := by
  have HLF := hid hLF; clear hLF
  go_enter Try.func96, Try.ntmps96
  obtain ⟨_, _, _⟩ := cells3 X1.out
  have _ := fz X1.out
  have _ := ltb X1.out
  obtain ⟨_, _⟩ := cells2 X2.out
  have _ := fz X2.out
  have _ := ltb X2.out
  go_wp2_with fail
  refine (HLF.out _ (((Gr.refl w).al _).al _)).mono ?_
  rintro e w1 ⟨rfl, hg1⟩
  obtain ⟨x1_0, x1_1, hz1, g1⟩ := alloc2 hg1
  have x1_2 := g1.keep X1.out
  have x1_3 := g1.keep X2.out
  obtain ⟨_, _⟩ := cells2 x1_0
  have _ := fz x1_0
  have _ := ltb x1_0
  obtain ⟨_, _⟩ := cells2 x1_1
  have _ := fz x1_1
  have _ := ltb x1_1
  obtain ⟨_, _, _⟩ := cells3 x1_2
  have _ := fz x1_2
  have _ := ltb x1_2
  obtain ⟨_, _⟩ := cells2 x1_3
  have _ := fz x1_3
  have _ := ltb x1_3
  have X1_0 := hid x1_0; clear x1_0
  have X1_1 := hid x1_1; clear x1_1
  have X1_2 := hid x1_2; clear x1_2
  have X1_3 := hid x1_3; clear x1_3
  have G1 := hid (g1)
  clear hg1 g1
  go_wp2
  refine bodyPost_ret (v := .tuple #[fr 0 0, .int .i64 C]) (by simp [results, Try.results96, go_sem, *]) rfl ⟨rfl, ?_⟩
  exact ((G1.out).setCell (by simp <;> omega) _).setCell (by simp <;> omega) _
set_option maxRecDepth 20000 in
set_option maxHeartbeats 400000 in
theorem sRV_0 (a b n x y : Int) (r : Bool) (A : Option Addr) (c : Nat) (xs : List (Int × Int)) (w : World) (X : Hid (RdF w A xs)) (hn : xs.length ≤ 1048576) (h : askB a b xs n x y = false) :
    Calls Try.prog 43 #[scl a b A xs.length c, vn n r, fr x y] w fun e w' => e = .returned (.tuple #[fr 0 0, .int .i64 1]) ∧ Gr w w' := by
  have h' := hid h
  clear h
  go_enter Try.func43, Try.ntmps43
  go_wp2_with fail
  refine (saskF a b n x y r A c xs _ _ _ (hid (alloc4 (Gr.refl _)).1) (hid (alloc4 (Gr.refl _)).2.1) (hid (X.out.keep (((((Gr.refl w).al _).al _).al _).al _))) hn h'.out).mono ?_
  rintro e w1 ⟨rfl, hg1⟩
  obtain ⟨x1_0, x1_1, x1_2, x1_3, hz1, g1⟩ := alloc4 hg1
  obtain ⟨_, _, _⟩ := cells3 x1_0
  have _ := fz x1_0
  have _ := ltb x1_0
  obtain ⟨_, _⟩ := cells2 x1_1
  have _ := fz x1_1
  have _ := ltb x1_1
  obtain ⟨_, _⟩ := cells2 x1_2
  have _ := fz x1_2
  have _ := ltb x1_2
  obtain ⟨_, _⟩ := cells2 x1_3
  have _ := fz x1_3
  have _ := ltb x1_3
  have X1_0 := hid x1_0; clear x1_0
  have X1_1 := hid x1_1; clear x1_1
  have X1_2 := hid x1_2; clear x1_2
  have X1_3 := hid x1_3; clear x1_3
  have G1 := hid (g1)
  clear hg1 g1
  go_wp2
  refine bodyPost_ret (v := .tuple #[fr 0 0, .int .i64 1]) (by simp [results, Try.results43, go_sem, *]) rfl ⟨rfl, ?_⟩
  exact ((G1.out).setCell (by simp <;> omega) _).setCell (by simp <;> omega) _
set_option maxRecDepth 20000 in
set_option maxHeartbeats 400000 in
theorem sRV_1 (P Q C : Int) (a b n x y : Int) (r : Bool) (A : Option Addr) (c : Nat) (xs : List (Int × Int)) (w : World) (X : Hid (RdF w A xs)) (hn : xs.length ≤ 1048576) (h : askB a b xs n x y = true) (hl : ∀ (w : World) (j j2 : Nat), Hid (w.heap[j]? = some (.cells #[.int .i64 a, .int .i64 b, .slice A xs.length c] 32)) → Hid (w.heap[j2]? = some (.cells #[.int .i64 n, .bool r] 53)) → Hid (RdF w A xs) → Calls Try.prog 96 #[.pointer (some ⟨j, 0, none⟩), .pointer (some ⟨j2, 0, none⟩), fr x y] w fun e w' => e = .returned (.tuple #[fr P Q, .int .i64 C]) ∧ Gr w w') :
    Calls Try.prog 43 #[scl a b A xs.length c, vn n r, fr x y] w fun e w' => e = .returned (.tuple #[fr P Q, .int .i64 C]) ∧ Gr w w' := by
  have h' := hid h
  have HL := hid hl; clear hl
  clear h
  go_enter Try.func43, Try.ntmps43
  go_wp2_with fail
  refine (saskT a b n x y r A c xs _ _ _ (hid (alloc4 (Gr.refl _)).1) (hid (alloc4 (Gr.refl _)).2.1) (hid (X.out.keep (((((Gr.refl w).al _).al _).al _).al _))) hn h'.out).mono ?_
  rintro e w1 ⟨rfl, hg1⟩
  obtain ⟨x1_0, x1_1, x1_2, x1_3, hz1, g1⟩ := alloc4 hg1
  obtain ⟨_, _, _⟩ := cells3 x1_0
  have _ := fz x1_0
  have _ := ltb x1_0
  obtain ⟨_, _⟩ := cells2 x1_1
  have _ := fz x1_1
  have _ := ltb x1_1
  obtain ⟨_, _⟩ := cells2 x1_2
  have _ := fz x1_2
  have _ := ltb x1_2
  obtain ⟨_, _⟩ := cells2 x1_3
  have _ := fz x1_3
  have _ := ltb x1_3
  have X1_0 := hid x1_0; clear x1_0
  have X1_1 := hid x1_1; clear x1_1
  have X1_2 := hid x1_2; clear x1_2
  have X1_3 := hid x1_3; clear x1_3
  have G1 := hid (g1)
  clear hg1 g1
  go_wp2_with fail
  refine (HL.out _ _ _ (hid X1_0.out) (hid X1_1.out) (hid (X.out.keep G1.out))).mono ?_
  rintro e w2 ⟨rfl, hg2⟩
  have x2_1 := hg2.keep X1_0.out
  have x2_2 := hg2.keep X1_1.out
  have x2_3 := hg2.keep X1_2.out
  have x2_4 := hg2.keep X1_3.out
  obtain ⟨_, _, _⟩ := cells3 x2_1
  have _ := fz x2_1
  have _ := ltb x2_1
  obtain ⟨_, _⟩ := cells2 x2_2
  have _ := fz x2_2
  have _ := ltb x2_2
  obtain ⟨_, _⟩ := cells2 x2_3
  have _ := fz x2_3
  have _ := ltb x2_3
  obtain ⟨_, _⟩ := cells2 x2_4
  have _ := fz x2_4
  have _ := ltb x2_4
  have X2_1 := hid x2_1; clear x2_1
  have X2_2 := hid x2_2; clear x2_2
  have X2_3 := hid x2_3; clear x2_3
  have X2_4 := hid x2_4; clear x2_4
  have G2 := hid (G1.out.trans hg2)
  clear hg2
  go_wp2
  refine bodyPost_ret (v := .tuple #[fr P Q, .int .i64 C]) (by simp [results, Try.results43, go_sem, *]) rfl ⟨rfl, ?_⟩
  exact ((G2.out).setCell (by simp <;> omega) _).setCell (by simp <;> omega) _
set_option maxRecDepth 20000 in
set_option maxHeartbeats 400000 in
theorem iRV_0 (C : Int) (a b n x y : Int) (r : Bool) (A : Option Addr) (c : Nat) (xs : List (Int × Int)) (w : World) (X : Hid (RdF w A xs)) (h : ∀ w, Hid (RdF w A xs) → Calls Try.prog 93 #[scl a b A xs.length c, vn n r, fr x y] w fun e w' => e = .returned (.int .i64 C) ∧ Gr w w') (hC : (C == 0) = false) :
    Calls Try.prog 44 #[scl a b A xs.length c, vn n r, fr x y] w fun e w' => e = .returned (.tuple #[fr 0 0, .int .i64 C]) ∧ Gr w w' := by
  have h' := hid h
  clear h
  go_enter Try.func44, Try.ntmps44
  go_wp2_with fail
  refine (h'.out _ (hid (X.out.keep (((((Gr.refl w).al _).al _).al _).al _)))).mono ?_
  rintro e w1 ⟨rfl, hg1⟩
  obtain ⟨x1_0, x1_1, x1_2, x1_3, hz1, g1⟩ := alloc4 hg1
  obtain ⟨_, _, _⟩ := cells3 x1_0
  have _ := fz x1_0
  have _ := ltb x1_0
  obtain ⟨_, _⟩ := cells2 x1_1
  have _ := fz x1_1
  have _ := ltb x1_1
  obtain ⟨_, _⟩ := cells2 x1_2
  have _ := fz x1_2
  have _ := ltb x1_2
  obtain ⟨_, _⟩ := cells2 x1_3
  have _ := fz x1_3
  have _ := ltb x1_3
  have X1_0 := hid x1_0; clear x1_0
  have X1_1 := hid x1_1; clear x1_1
  have X1_2 := hid x1_2; clear x1_2
  have X1_3 := hid x1_3; clear x1_3
  have G1 := hid (g1)
  clear hg1 g1
  go_wp2
  refine bodyPost_ret (v := .tuple #[fr 0 0, .int .i64 C]) (by simp [results, Try.results44, go_sem, *]) rfl ⟨rfl, ?_⟩
  exact ((G1.out).setCell (by simp <;> omega) _).setCell (by simp <;> omega) _
set_option maxRecDepth 20000 in
set_option maxHeartbeats 400000 in
theorem iRV_1 (P Q C : Int) (a b n x y : Int) (r : Bool) (A : Option Addr) (c : Nat) (xs : List (Int × Int)) (w : World) (X : Hid (RdF w A xs)) (h : ∀ w, Hid (RdF w A xs) → Calls Try.prog 93 #[scl a b A xs.length c, vn n r, fr x y] w fun e w' => e = .returned (.int .i64 0) ∧ Gr w w')
    (hT : ∀ (w' : World) (j j2 j3 : Nat), Hid (w'.heap[j]? = some (.cells #[.int .i64 a, .int .i64 b, .slice A xs.length c] 32)) → Hid (w'.heap[j2]? = some (.cells #[.int .i64 n, .bool r] 53)) → Hid (w'.heap[j3]? = some (.cells #[.int .i64 x, .int .i64 y] 29)) → Hid (RdF w' A xs) → Calls Try.prog 83 #[.func (.func 97) #[] #[.pointer (some ⟨j2, 0, none⟩), .pointer (some ⟨j, 0, none⟩), .pointer (some ⟨j3, 0, none⟩)]] w' fun e w'' => e = .returned (.tuple #[fr P Q, .int .i64 C]) ∧ Gr w' w'') :
    Calls Try.prog 44 #[scl a b A xs.length c, vn n r, fr x y] w fun e w' => e = .returned (.tuple #[fr P Q, .int .i64 C]) ∧ Gr w w' := by
  have h' := hid h; have HT := hid hT
  clear h hT
  go_enter Try.func44, Try.ntmps44
  go_wp2_with fail
  refine (h'.out _ (hid (X.out.keep (((((Gr.refl w).al _).al _).al _).al _)))).mono ?_
  rintro e w1 ⟨rfl, hg1⟩
  obtain ⟨x1_0, x1_1, x1_2, x1_3, hz1, g1⟩ := alloc4 hg1
  obtain ⟨_, _, _⟩ := cells3 x1_0
  have _ := fz x1_0
  have _ := ltb x1_0
  obtain ⟨_, _⟩ := cells2 x1_1
  have _ := fz x1_1
  have _ := ltb x1_1
  obtain ⟨_, _⟩ := cells2 x1_2
  have _ := fz x1_2
  have _ := ltb x1_2
  obtain ⟨_, _⟩ := cells2 x1_3
  have _ := fz x1_3
  have _ := ltb x1_3
  have X1_0 := hid x1_0; clear x1_0
  have X1_1 := hid x1_1; clear x1_1
  have X1_2 := hid x1_2; clear x1_2
  have X1_3 := hid x1_3; clear x1_3
  have G1 := hid (g1)
  clear hg1 g1
  go_wp2_with fail
  refine (HT.out _ _ _ _ (hid X1_0.out) (hid X1_1.out) (hid X1_2.out) (hid (X.out.keep G1.out))).mono ?_
  rintro e w2 ⟨rfl, hg2⟩
  have x2_1 := hg2.keep X1_0.out
  have x2_2 := hg2.keep X1_1.out
  have x2_3 := hg2.keep X1_2.out
  have x2_4 := hg2.keep X1_3.out
  obtain ⟨_, _, _⟩ := cells3 x2_1
  have _ := fz x2_1
  have _ := ltb x2_1
  obtain ⟨_, _⟩ := cells2 x2_2
  have _ := fz x2_2
  have _ := ltb x2_2
  obtain ⟨_, _⟩ := cells2 x2_3
  have _ := fz x2_3
  have _ := ltb x2_3
  obtain ⟨_, _⟩ := cells2 x2_4
  have _ := fz x2_4
  have _ := ltb x2_4
  have X2_1 := hid x2_1; clear x2_1
  have X2_2 := hid x2_2; clear x2_2
  have X2_3 := hid x2_3; clear x2_3
  have X2_4 := hid x2_4; clear x2_4
  have G2 := hid (G1.out.trans hg2)
  clear hg2
  go_wp2
  refine bodyPost_ret (v := .tuple #[fr P Q, .int .i64 C]) (by simp [results, Try.results44, go_sem, *]) rfl ⟨rfl, ?_⟩
  exact ((G2.out).setCell (by simp <;> omega) _).setCell (by simp <;> omega) _
set_option maxRecDepth 20000 in
set_option maxHeartbeats 400000 in
theorem crv (B : Bool) (P Q : Int) (k1 k2 k3 : Nat) (a b n x y : Int) (r : Bool) (A : Option Addr) (c : Nat) (xs : List (Int × Int)) (w : World) (X1 : Hid (w.heap[k1]? = some (.cells #[.int .i64 a, .int .i64 b, .slice A xs.length c] 32))) (X2 : Hid (w.heap[k2]? = some (.cells #[.int .i64 n, .bool r] 53))) (X3 : Hid (w.heap[k3]? = some (.cells #[.int .i64 x, .int .i64 y] 29)))
    (hf : ∀ w', Gr w w' → Calls Try.prog 98 #[vn n r, scl a b A xs.length c, fr x y] w' (ResI B P Q w')) :
    Calls Try.prog 97 #[.pointer (some ⟨k2, 0, none⟩), .pointer (some ⟨k1, 0, none⟩), .pointer (some ⟨k3, 0, none⟩)] w (ResI B P Q w) := by
  have HF := hid hf; clear hf
  cases B with
  | true =>
    refine Calls.mono (R := fun e w' => e = .returned (fr P Q) ∧ Gr w w') ?_ fun e w' ⟨h, hg⟩ => ⟨fun _ => h, fun h => (by cases h), hg⟩
    have HF2 := hid fun w' (hg : Gr w w') => (HF.out w' hg).mono (R' := fun e w'' => e = .returned (fr P Q) ∧ Gr w' w'') fun e w'' h => ⟨h.1 rfl, h.2.2⟩
    clear HF
    go_enter Try.func97, Try.ntmps97
    obtain ⟨_, _, _⟩ := cells3 X1.out
    have _ := fz X1.out
    have _ := ltb X1.out
    obtain ⟨_, _⟩ := cells2 X2.out
    have _ := fz X2.out
    have _ := ltb X2.out
    obtain ⟨_, _⟩ := cells2 X3.out
    have _ := fz X3.out
    have _ := ltb X3.out
    go_wp2_with fail
    refine (HF2.out _ ((Gr.refl _).al _)).mono ?_
    rintro e w1 ⟨rfl, hg1⟩
    obtain ⟨x1_0, hz1, g1⟩ := alloc1 hg1
    have x1_1 := g1.keep X1.out
    have x1_2 := g1.keep X2.out
    have x1_3 := g1.keep X3.out
    obtain ⟨_, _⟩ := cells2 x1_0
    have _ := fz x1_0
    have _ := ltb x1_0
    obtain ⟨_, _, _⟩ := cells3 x1_1
    have _ := fz x1_1
    have _ := ltb x1_1
    obtain ⟨_, _⟩ := cells2 x1_2
    have _ := fz x1_2
    have _ := ltb x1_2
    obtain ⟨_, _⟩ := cells2 x1_3
    have _ := fz x1_3
    have _ := ltb x1_3
    have X1_0 := hid x1_0; clear x1_0
    have X1_1 := hid x1_1; clear x1_1
    have X1_2 := hid x1_2; clear x1_2
    have X1_3 := hid x1_3; clear x1_3
    have G1 := hid (g1)
    clear hg1 g1
    go_wp2
    refine bodyPost_ret (v := fr P Q) (by simp [results, Try.results97, go_sem, *]) rfl ⟨rfl, ?_⟩
    exact ((G1.out).setCell (by simp <;> omega) _).setCell (by simp <;> omega) _
  | false =>
    refine Calls.mono (R := fun e w' => (∃ x y, e = .panicked [{ v := .iface 125 (fr x y), recovered := false }]) ∧ Gr w w') ?_ fun e w' ⟨h, hg⟩ => ⟨fun h => (by cases h), fun _ => h, hg⟩
    have HF2 := hid fun w' (hg : Gr w w') => (HF.out w' hg).mono (R' := fun e w'' => (∃ x y, e = .panicked [{ v := .iface 125 (fr x y), recovered := false }]) ∧ Gr w' w'') fun e w'' h => ⟨h.2.1 rfl, h.2.2⟩
    clear HF
    go_enter Try.func97, Try.ntmps97
    obtain ⟨_, _, _⟩ := cells3 X1.out
    have _ := fz X1.out
    have _ := ltb X1.out
    obtain ⟨_, _⟩ := cells2 X2.out
    have _ := fz X2.out
    have _ := ltb X2.out
    obtain ⟨_, _⟩ := cells2 X3.out
    have _ := fz X3.out
    have _ := ltb X3.out
    go_wp2_with fail
    refine (HF2.out _ ((Gr.refl _).al _)).mono ?_
    rintro e w1 ⟨⟨xp, yp, rfl⟩, hg1⟩
    obtain ⟨x1_0, hz1, g1⟩ := alloc1 hg1
    have x1_1 := g1.keep X1.out
    have x1_2 := g1.keep X2.out
    have x1_3 := g1.keep X3.out
    obtain ⟨_, _⟩ := cells2 x1_0
    have _ := fz x1_0
    have _ := ltb x1_0
    obtain ⟨_, _, _⟩ := cells3 x1_1
    have _ := fz x1_1
    have _ := ltb x1_1
    obtain ⟨_, _⟩ := cells2 x1_2
    have _ := fz x1_2
    have _ := ltb x1_2
    obtain ⟨_, _⟩ := cells2 x1_3
    have _ := fz x1_3
    have _ := ltb x1_3
    have X1_0 := hid x1_0; clear x1_0
    have X1_1 := hid x1_1; clear x1_1
    have X1_2 := hid x1_2; clear x1_2
    have X1_3 := hid x1_3; clear x1_3
    have G1 := hid (g1)
    clear hg1 g1
    exact ⟨rfl, ⟨xp, yp, rfl⟩, G1.out⟩
theorem fits_lt {a b x y : Int} {r : Bool} {N : Nat} {xs : List (Int × Int)} {f : Nat → Bool × Int × Int} {R : Nat} {U V P0 Q0 : Int} (F : Fits a b x y r N xs f R U V P0 Q0) : R < N := by
  have h := fl_get (mfs f N) _ 1 0 P0 Q0 rfl F.first
  rw [F.fl] at h
  have := (List.getElem?_eq_some_iff.1 h).1
  rwa [mfs_len] at this
theorem bothReadVernier (a b : Int) (xs : List (Int × Int)) (n : Int) (r : Bool) (x y : Int) (hn : xs.length ≤ 1048576) : ∃ R0 R1 R2 : Int,
    (∀ (A : Option Addr) (c : Nat) (w : World), Hid (RdF w A xs) → Calls Try.prog 43 #[scl a b A xs.length c, vn n r, fr x y] w fun x w' => x = .returned (.tuple #[fr R0 R1, .int .i64 R2]) ∧ Gr w w') ∧
    (∀ (A : Option Addr) (c : Nat) (w : World), Hid (RdF w A xs) → Calls Try.prog 44 #[scl a b A xs.length c, vn n r, fr x y] w fun x w' => x = .returned (.tuple #[fr R0 R1, .int .i64 R2]) ∧ Gr w w') := by
  cases h : askB a b xs n x y with
  | false =>
    refine ⟨0, 0, 1, fun A c w X => sRV_0 a b n x y r A c xs w X hn h, fun A c w X => iRV_0 1 a b n x y r A c xs w X (fun w X => ?_) rfl⟩
    cases h1 : sclB a b xs with
    | false => exact ichk_0 a b n x y r A c xs w X hn h1
    | true =>
      cases h2 : inB n 2 40 with
      | false => exact ichk_1 a b n x y r A c xs w X hn h1 h2
      | true =>
        have h3 : okB x y = false := by
          unfold askB at h
          rw [h1, h2] at h
          simpa using h
        exact ichk_2 a b n x y r A c xs w X hn h1 h2 h3
  | true =>
    obtain ⟨hs, hv, hx⟩ := ask_of h
    have S := scl_of hs
    obtain ⟨n1, n2⟩ := in_bd hv
    have h0 : 0 < xs.length := by have := S.lo; omega
    obtain ⟨u0, v0, u1, v1, E⟩ := ends_of S
    obtain ⟨N, rfl⟩ := Int.eq_ofNat_of_zero_le (show 0 ≤ n by omega)
    have hl := fun (A : Option Addr) (c : Nat) w => iline a b N (N - 1) x y r A xs.length c w n1 n2 (by omega) (by omega) S.unit hx
    have hls := fun (A : Option Addr) (c k1 k2 : Nat) w X1 X2 => sline a b N (N - 1) x y r k1 k2 (.slice A xs.length c) w X1 X2 n1 n2 (by omega) (by omega) S.unit hx
    by_cases hc : cmpI x y u0 v0 < 0
    · exact ⟨0, 0, 2, fun A c w X => sRV_1 0 0 2 a b N x y r A c xs w X hn h fun w j j2 X1 X2 X => srd_x a b x y N 2 r A c xs w j j2 X1 X2 rfl fun w' hg => sft_3 a b x y r N A c j j2 xs u0 v0 u1 v1 w' (hid (hg.keep X1.out)) (hid (hg.keep X2.out)) (hid (X.out.keep hg)) S (by omega) (by omega) hx E hc,
        fun A c w X => iRV_0 2 a b N x y r A c xs w X (fun w X => ichk_3 a b N x y r A c xs u0 v0 u1 v1 w X h E hc) rfl⟩
    · cases hB : lnB a b N (stp N r (N - 1)) x y with
      | false =>
        refine ⟨0, 0, 3, fun A c w X => sRV_1 0 0 3 a b N x y r A c xs w X hn h fun w j j2 X1 X2 X => srd_x a b x y N 3 r A c xs w j j2 X1 X2 rfl fun w0 hg0 => sft_4 a b x y r N A c j j2 xs u0 v0 u1 v1 w0 (hid (hg0.keep X1.out)) (hid (hg0.keep X2.out)) (hid (X.out.keep hg0)) S (by omega) (by omega) hx E hc fun w' hg => ?_,
          fun A c w X => iRV_0 3 a b N x y r A c xs w X (fun w X => ichk_4 a b N x y r A c xs u0 v0 u1 v1 w X h E hc false _ _ (fun w => hB ▸ hl A c w) rfl) rfl⟩
        have := hls A c j j2 w' (hid ((hg0.trans hg).keep X1.out)) (hid ((hg0.trans hg).keep X2.out))
        rw [hB] at this
        exact this
      | true =>
        have hp := lnB_ok hB
        have hlt := fun (A : Option Addr) (c : Nat) w => hB ▸ hl A c w
        have hlst := fun (A : Option Addr) (c k1 k2 : Nat) w X1 X2 => by
          have := hls A c k1 k2 w X1 X2
          rw [hB] at this
          exact this
        obtain ⟨P, hP⟩ : ∃ P, lnP a b N (stp N r (N - 1)) x y = P := ⟨_, rfl⟩
        obtain ⟨Q, hQ⟩ : ∃ Q, lnQ a b N (stp N r (N - 1)) x y = Q := ⟨_, rfl⟩
        rw [hP, hQ] at hp hlt hlst
        by_cases hd : 0 < cmpI P Q u1 v1
        · exact ⟨0, 0, 2, fun A c w X => sRV_1 0 0 2 a b N x y r A c xs w X hn h fun w j j2 X1 X2 X => srd_x a b x y N 2 r A c xs w j j2 X1 X2 rfl fun w0 hg0 => sft_5 a b x y r N A c j j2 xs u0 v0 u1 v1 w0 (hid (hg0.keep X1.out)) (hid (hg0.keep X2.out)) (hid (X.out.keep hg0)) S (by omega) (by omega) hx E hc P Q (fun w' hg => hlst A c j j2 w' (hid ((hg0.trans hg).keep X1.out)) (hid ((hg0.trans hg).keep X2.out))) hp hd,
            fun A c w X => iRV_0 2 a b N x y r A c xs w X (fun w X => ichk_5 a b N x y r A c xs u0 v0 u1 v1 w X h E hc true P Q (hlt A c) rfl hp hd) rfl⟩
        · obtain ⟨f, R, U, V, P0, Q0, F⟩ := lineFits_of a b x y r N xs h0 (by omega)
          have hck := fun (A : Option Addr) (c : Nat) w X => ichk_6 a b N x y r A c xs u0 v0 u1 v1 w X h E hc true P Q (hlt A c) rfl hp hd
          have hsf := fun (A : Option Addr) (c j j2 : Nat) w X1 X2 X => sft_6 a b x y r N A c j j2 xs u0 v0 u1 v1 w X1 X2 X S (by omega) (by omega) hx E hc P Q (fun w' hg => hlst A c j j2 w' (hid (hg.keep X1.out)) (hid (hg.keep X2.out))) hp hd f R U V P0 Q0
            (fun i hi w' hg => smisfit a b N i x y r A c j j2 xs _ _ _ w' (hid (hg.keep X1.out)) (hid (hg.keep X2.out)) (hid (X.out.keep hg)) S n1 n2 (by omega) (by omega) hx (F.mis i hi)) F.ok F.first F.fl
          by_cases hA : AllF f N
          · obtain ⟨B, P2, Q2, hI, hS⟩ := rd_all a b x y R N r S.unit S.pos hx (by omega) (by omega) (fits_lt F)
            refine ⟨if B then P2 else 0, if B then Q2 else 0, if B then 0 else 3, fun A c w X => sRV_1 _ _ _ a b N x y r A c xs w X hn h fun w j j2 X1 X2 X => hS A c xs w j j2 X1 X2 fun w' hg => (hsf A c j j2 w' (hid (hg.keep X1.out)) (hid (hg.keep X2.out)) (hid (X.out.keep hg))).mono ?_,
              fun A c w X => iRV_1 _ _ _ a b N x y r A c xs w X (hck A c) fun w' j j2 j3 X1 X2 X3 X => told_R _ _ B P2 Q2 w' (fun _ => by kernel_rfl) fun w2 hg2 => crv B P2 Q2 j j2 j3 a b N x y r A c xs w2 (hid (hg2.keep X1.out)) (hid (hg2.keep X2.out)) (hid (hg2.keep X3.out)) fun w3 hg3 => hI A c xs w3 (hid (X.out.keep (hg2.trans hg3))) fun w4 X4 => (F.impl S (by omega) (by omega) hx A c w4 X4).mono ?_⟩
            · rintro e w'' ⟨⟨_, rfl⟩ | ⟨hn', _⟩, hg⟩
              · exact ⟨rfl, hg⟩
              · exact absurd hA hn'
            · rintro e w'' ⟨⟨_, rfl⟩ | ⟨hn', _⟩, hg⟩
              · exact ⟨rfl, hg⟩
              · exact absurd hA hn'
          · refine ⟨0, 0, 3, fun A c w X => sRV_1 0 0 3 a b N x y r A c xs w X hn h fun w j j2 X1 X2 X => srd_x a b x y N 3 r A c xs w j j2 X1 X2 rfl fun w' hg => (hsf A c j j2 w' (hid (hg.keep X1.out)) (hid (hg.keep X2.out)) (hid (X.out.keep hg))).mono ?_,
              fun A c w X => iRV_1 0 0 3 a b N x y r A c xs w X (hck A c) fun w' j j2 j3 X1 X2 X3 X => told_R _ _ false 0 0 w' (fun _ => by kernel_rfl) fun w2 hg2 => crv false 0 0 j j2 j3 a b N x y r A c xs w2 (hid (hg2.keep X1.out)) (hid (hg2.keep X2.out)) (hid (hg2.keep X3.out)) fun w3 hg3 => (ird_x a b x y N r A c xs w3 (hid (X.out.keep (hg2.trans hg3))) fun w4 X4 => (F.impl S (by omega) (by omega) hx A c w4 X4).mono ?_).mono fun e w5 h5 => ⟨fun h => (by cases h), fun _ => h5.1, h5.2⟩⟩
            · rintro e w'' ⟨⟨hD', _⟩ | ⟨_, rfl⟩, hg⟩
              · exact absurd hD' hA
              · exact ⟨rfl, hg⟩
            · rintro e w'' ⟨⟨hD', _⟩ | ⟨_, ch, rfl, u, v, rfl⟩, hg⟩
              · exact absurd hD' hA
              · exact ⟨⟨u, v, rfl⟩, hg⟩
end Go.Proofs.Ytfkmlgndggnhaaa
