/- WALKS: guesses: whether they are valid, what is read by them; of the program and of the reference. -/
import Derived.Test.YtpadjkgbeijkpaaC0
import Derived.Test.YtpadjkgbeijkpaaJ
import Derived.Test.YtpadjkgbeijkpaaB1
import Derived.Test.YtpadjkgbeijkpaaE
namespace Go.Proofs.Ytpadjkgbeijkpaa
open Go.RowKit Go.Sort

abbrev gs (b u : Int) (o : Bool) : Value := .agg #[.int .i16 b, .int .i16 u, .bool o]
def gsB (b u : Int) : Bool := inB b (-50) 50 && inB u 1 20
def W16 (b : Int) : Prop := -32768 ≤ b ∧ b ≤ 32767
theorem gsB_bd {b u : Int} (h : gsB b u = true) : -50 ≤ b ∧ b ≤ 50 ∧ 1 ≤ u ∧ u ≤ 20 := by
  unfold gsB inB at h
  simp at h
  omega
set_option maxRecDepth 20000 in
set_option maxHeartbeats 400000 in
theorem sGuess (b u : Int) (o : Bool) (w : World) (hb : W16 b) (hu : W16 u) :
    Calls Try.prog 118 #[gs b u o] w fun e w' => e = .returned (.bool (gsB b u)) ∧ Gr w w' := by
  obtain ⟨_, _⟩ := hb
  obtain ⟨_, _⟩ := hu
  unfold gsB
  have ha1 := hid fun (w : World) => in_any b (-50) 50 w
  have ha2 := hid fun (w : World) => in_any u 1 20 w
  cases h1 : inB b (-50) 50 with
  | true =>
    rw [h1] at ha1
    go_enter Try.func118, Try.ntmps118
    go_wp2_with (go_at_call 53; first | ((with_reducible refine (ha1.out _).mono ?_); rintro e w1 ⟨rfl, rfl⟩) | ((with_reducible refine (ha2.out _).mono ?_); rintro e w1 ⟨rfl, rfl⟩))
    go_ret
    exact ⟨ret_bool (by simp), (Gr.refl _).al _⟩
  | false =>
    rw [h1] at ha1
    go_enter Try.func118, Try.ntmps118
    go_wp2_with (go_at_call 53; first | ((with_reducible refine (ha1.out _).mono ?_); rintro e w1 ⟨rfl, rfl⟩) | ((with_reducible refine (ha2.out _).mono ?_); rintro e w1 ⟨rfl, rfl⟩))
    go_ret
    exact ⟨ret_bool (by simp), (Gr.refl _).al _⟩
theorem gt_inQ (n m : Int) : gtB n m = !inB n (-m) m := by
  unfold gtB inB
  by_cases h1 : n < -m
  · have : ¬ -m ≤ n := by omega
    simp [h1, this]
  · have h1' : -m ≤ n := by omega
    by_cases h2 : m < n
    · have : ¬ n ≤ m := by omega
      simp [h1, h1', h2, this]
    · have : n ≤ m := by omega
      simp [h1, h1', h2, this]
set_option maxRecDepth 20000 in
set_option maxHeartbeats 400000 in
theorem iGuess (b u : Int) (o : Bool) (w : World) (hb : W16 b) (hu : W16 u) :
    Calls Try.prog 121 #[gs b u o] w fun e w' => e = .returned (.bool (gsB b u)) ∧ Gr w w' := by
  obtain ⟨_, _⟩ := hb
  obtain ⟨_, _⟩ := hu
  have ha := fun (w : World) => gt_any b 50 w (by omega) (by omega)
  rw [gt_inQ] at ha
  have HA := hid ha; clear ha
  cases h1 : inB b (-50) 50 with
  | false =>
    have e : gsB b u = false := by unfold gsB; rw [h1]; rfl
    rw [e]
    rw [h1] at HA
    go_enter Try.func121, Try.ntmps121
    go_wp2_with (go_at_call 123; refine (HA.out _).mono ?_; rintro e w1 ⟨rfl, rfl⟩)
    go_ret
    exact ⟨rfl, (Gr.refl _).al _⟩
  | true =>
    rw [h1] at HA
    by_cases h2 : 1 ≤ u
    · by_cases h3 : u ≤ 20
      · have e : gsB b u = true := by unfold gsB; rw [h1]; unfold inB; simp [h2, h3]
        rw [e]
        go_enter Try.func121, Try.ntmps121
        go_wp2_with (go_at_call 123; refine (HA.out _).mono ?_; rintro e w1 ⟨rfl, rfl⟩)
        go_ret
        exact ⟨ret_bool (by simp), (Gr.refl _).al _⟩
      · have e : gsB b u = false := by unfold gsB; rw [h1]; unfold inB; simp [h2, h3]
        rw [e]
        go_enter Try.func121, Try.ntmps121
        go_wp2_with (go_at_call 123; refine (HA.out _).mono ?_; rintro e w1 ⟨rfl, rfl⟩)
        go_ret
        exact ⟨ret_bool (by simp; omega), (Gr.refl _).al _⟩
    · have e : gsB b u = false := by unfold gsB; rw [h1]; unfold inB; simp [h2]
      rw [e]
      go_enter Try.func121, Try.ntmps121
      go_wp2_with (go_at_call 123; refine (HA.out _).mono ?_; rintro e w1 ⟨rfl, rfl⟩)
      go_ret
      exact ⟨rfl, (Gr.refl _).al _⟩

/-! what is read -/
def rdP (b p q : Int) : Int := p + b * q
def rdQ (u q : Int) : Int := q * u
def rdV (b u : Int) (o : Bool) (p q : Int) : Int :=
  if o then downI (2 * rdP b p q + rdQ u q) (2 * rdQ u q) * u else -downI (2 * -rdP b p q + rdQ u q) (2 * rdQ u q) * u
structure RdBd (b u p q : Int) : Prop where
  b1 : -50 ≤ b
  b2 : b ≤ 50
  u1 : 1 ≤ u
  u2 : u ≤ 20
  q1 : 1 ≤ q
  q2 : q ≤ 1000000000
  p1 : -1000000000 ≤ p
  p2 : p ≤ 1000000000
  m1 : -50000000000 ≤ b * q
  m2 : b * q ≤ 50000000000
  n1 : 1 ≤ q * u
  n2 : q * u ≤ 20000000000
theorem rd_bd {b u p q : Int} (hg : gsB b u = true) (h : okB p q = true) : RdBd b u p q := by
  obtain ⟨b1, b2, u1, u2⟩ := gsB_bd hg
  obtain ⟨q1, q2, p1, p2⟩ := okB_bd h
  have m := mul_bound (x := b) (y := q) 50 1000000000 (by omega) (by omega) (by omega) (by omega)
  have n := mul_bound (x := q) (y := u) 1000000000 20 (by omega) (by omega) (by omega) (by omega)
  have n0 : 1 ≤ q * u := by
    have := Int.mul_le_mul q1 u1 (by omega) (by omega)
    simpa using this
  exact ⟨b1, b2, u1, u2, q1, q2, p1, p2, by omega, by omega, n0, by omega⟩
theorem down_bdQ (p q : Int) (a : Int) (h1 : -a ≤ p) (h2 : p ≤ a) : -(a + 1) ≤ downI p q ∧ downI p q ≤ a := by
  have hn : (p.tdiv q).natAbs ≤ p.natAbs := by rw [Int.natAbs_tdiv]; exact Nat.div_le_self _ _
  unfold downI
  split <;> omega

theorem down_mul_bd {x y a u : Int} (h1 : -a ≤ x) (h2 : x ≤ a) (u1 : 1 ≤ u) (u2 : u ≤ 20) (_ : 0 ≤ a) : -(20 * (a + 1)) ≤ downI x y * u ∧ downI x y * u ≤ 20 * (a + 1) := by
  obtain ⟨b1, b2⟩ := down_bdQ x y a h1 h2
  have m := mul_bound (x := downI x y) (y := u) (a + 1) 20 (by omega) (by omega) (by omega) (by omega)
  have e : (a + 1) * 20 = 20 * (a + 1) := Int.mul_comm _ _
  omega
set_option maxHeartbeats 400000 in
theorem gnearDiv (p q : Int) (w : World) (p0 : -1000000000000000000 ≤ p) (p1 : p ≤ 1000000000000000000) (q0 : 1 ≤ q) (q1 : q ≤ 1000000000000000000) :
    Calls Try.prog 153 #[.int .i64 p, .int .i64 q] w fun e w' => e = .returned (.int .i64 (downI (2 * p + q) (2 * q))) ∧ w = w' := by
  go_enter Try.func153, Try.ntmps153
  go_wp2_with (go_at_call 171; refine (idown _ _ _ (by omega) (by omega) (by omega) (by omega)).mono ?_; rintro e w1 ⟨rfl, rfl⟩)
  go_ret
  exact ⟨rfl, rfl⟩
set_option maxRecDepth 20000 in
set_option maxHeartbeats 1000000 in
theorem imult (b u p q : Int) (o : Bool) (w : World) (B : RdBd b u p q) :
    Calls Try.prog 113 #[gs b u o, fr p q] w fun e w' => e = .returned (.int .i64 (rdV b u o p q)) ∧ Gr w w' := by
  obtain ⟨b1, b2, u1, u2, q1, q2, p1, p2, m1, m2, n1, n2⟩ := B
  have hP : -60000000000 ≤ rdP b p q ∧ rdP b p q ≤ 60000000000 := by unfold rdP; omega
  obtain ⟨P1, P2⟩ := hP
  have eP : rdP b p q = p + b * q := rfl
  have eQ : rdQ u q = q * u := rfl
  obtain ⟨P, hP⟩ : ∃ P, p + b * q = P := ⟨_, rfl⟩
  obtain ⟨Q, hQ⟩ : ∃ Q, q * u = Q := ⟨_, rfl⟩
  unfold rdV
  rw [eP, eQ, hP, hQ]
  rw [eP, hP] at P1 P2
  rw [hQ] at n1 n2
  have hw1 : IntKind.i64.wrap (b * q) = b * q := IntWalk.i64_in _ (by omega)
  have hw2 : IntKind.i64.wrap (p + b * q) = P := by rw [hP]; exact IntWalk.i64_in _ (by omega)
  have hw3 : IntKind.i64.wrap (q * u) = Q := by rw [hQ]; exact IntWalk.i64_in _ (by omega)
  have hb0 : IntKind.i64.wrap b = b := IntWalk.i64_in _ (by omega)
  clear m1 m2 hP hQ eP eQ
  have GA := hid ((Gr.refl w).al (.cells #[.int .i16 b, .int .i16 u, .bool o] 97))
  cases o with
  | true =>
    rw [if_pos rfl]
    have bd := down_mul_bd (x := 2 * P + Q) (y := 2 * Q) (u := u) (a := 200000000000) (by omega) (by omega) u1 u2 (by omega)
    have HN := hid fun (w : World) => gnearDiv P Q w (by omega) (by omega) (by omega) (by omega)
    obtain ⟨N, hN⟩ : ∃ N, downI (2 * P + Q) (2 * Q) = N := ⟨_, rfl⟩
    rw [hN] at HN bd
    rw [hN]
    obtain ⟨c1, c2⟩ : -5000000000000 ≤ N * u ∧ N * u ≤ 5000000000000 := by omega
    clear bd hN
    go_enter Try.func113, Try.ntmps113
    go_wp2_with fail
    refine wp_reg0 14 (by kernel_rfl) (by kernel_rfl) ?_
    apply Exists.intro
    refine ⟨fun wb hb => ?_, ?_⟩
    · obtain ⟨y0, y1, _, _⟩ := alloc2 (Gr.refl _)
      obtain ⟨_, _, _⟩ := hb.at3 y0
      obtain ⟨_, _⟩ := hb.at2 y1
      clear y0 y1
      simp only [headOps, List.contains, List.elem, reduceIte, Bool.false_eq_true]
      repeat (first | go_big_quiet_step (first | (fail)) | quiet_step (fail))
      exact wpQuiet_nil rfl
    intro w1 hg1
    obtain ⟨x1_0, x1_1, hz1, g1⟩ := alloc2 hg1
    obtain ⟨_, _, _⟩ := cells3 x1_0
    have _ := fz x1_0
    have _ := ltb x1_0
    obtain ⟨_, _⟩ := cells2 x1_1
    have _ := fz x1_1
    have _ := ltb x1_1
    have X1_0 := hid x1_0; clear x1_0
    have X1_1 := hid x1_1; clear x1_1
    have G1 := hid (g1)
    clear hg1 g1
    go_wp2_with (go_at_call 153; refine (HN.out _).mono ?_; rintro e w2 ⟨rfl, rfl⟩)
    go_ret
    exact ⟨rfl, G1.out⟩
  | false =>
    rw [if_neg (by decide)]
    have bd := down_mul_bd (x := 2 * -P + Q) (y := 2 * Q) (u := u) (a := 200000000000) (by omega) (by omega) u1 u2 (by omega)
    have bd0 := down_bdQ (2 * -P + Q) (2 * Q) 200000000000 (by omega) (by omega)
    have HN := hid fun (w : World) => gnearDiv (-P) Q w (by omega) (by omega) (by omega) (by omega)
    obtain ⟨N, hN⟩ : ∃ N, downI (2 * -P + Q) (2 * Q) = N := ⟨_, rfl⟩
    rw [hN] at HN bd bd0
    rw [hN]
    obtain ⟨_, _⟩ := bd0
    obtain ⟨c1, c2⟩ : -5000000000000 ≤ -N * u ∧ -N * u ≤ 5000000000000 := by rw [Int.neg_mul]; omega
    clear bd hN
    go_enter Try.func113, Try.ntmps113
    go_wp2_with fail
    refine wp_reg0 14 (by kernel_rfl) (by kernel_rfl) ?_
    apply Exists.intro
    refine ⟨fun wb hb => ?_, ?_⟩
    · obtain ⟨y0, y1, _, _⟩ := alloc2 (Gr.refl _)
      obtain ⟨_, _, _⟩ := hb.at3 y0
      obtain ⟨_, _⟩ := hb.at2 y1
      clear y0 y1
      simp only [headOps, List.contains, List.elem, reduceIte, Bool.false_eq_true]
      repeat (first | go_big_quiet_step (first | (fail)) | quiet_step (fail))
      exact wpQuiet_nil rfl
    intro w1 hg1
    obtain ⟨x1_0, x1_1, hz1, g1⟩ := alloc2 hg1
    obtain ⟨_, _, _⟩ := cells3 x1_0
    have _ := fz x1_0
    have _ := ltb x1_0
    obtain ⟨_, _⟩ := cells2 x1_1
    have _ := fz x1_1
    have _ := ltb x1_1
    have X1_0 := hid x1_0; clear x1_0
    have X1_1 := hid x1_1; clear x1_1
    have G1 := hid (g1)
    clear hg1 g1
    go_wp2_with (go_at_call 153; refine (HN.out _).mono ?_; rintro e w2 ⟨rfl, rfl⟩)
    go_ret
    exact ⟨rfl, G1.out⟩

set_option maxRecDepth 20000 in
set_option maxHeartbeats 1000000 in
theorem sread (b u p q : Int) (o : Bool) (w : World) (B : RdBd b u p q) :
    Calls Try.prog 114 #[gs b u o, fr p q] w fun e w' => e = .returned (.int .i64 (rdV b u o p q)) ∧ Gr w w' := by
  obtain ⟨b1, b2, u1, u2, q1, q2, p1, p2, m1, m2, n1, n2⟩ := B
  have hP : -60000000000 ≤ rdP b p q ∧ rdP b p q ≤ 60000000000 := by unfold rdP; omega
  obtain ⟨P1, P2⟩ := hP
  have eP : rdP b p q = p + b * q := rfl
  have eQ : rdQ u q = u * q := Int.mul_comm _ _
  have eQ2 : q * u = u * q := Int.mul_comm _ _
  rw [eQ2] at n1 n2
  obtain ⟨P, hP⟩ : ∃ P, p + b * q = P := ⟨_, rfl⟩
  obtain ⟨Q, hQ⟩ : ∃ Q, u * q = Q := ⟨_, rfl⟩
  unfold rdV
  rw [eP, eQ, hP, hQ]
  rw [eP, hP] at P1 P2
  rw [hQ] at n1 n2
  have hw1 : IntKind.i64.wrap (b * q) = b * q := IntWalk.i64_in _ (by omega)
  have hw2 : IntKind.i64.wrap (p + b * q) = P := by rw [hP]; exact IntWalk.i64_in _ (by omega)
  have hw3 : IntKind.i64.wrap (u * q) = Q := by rw [hQ]; exact IntWalk.i64_in _ (by omega)
  clear m1 m2 eP eQ eQ2
  cases o with
  | true =>
    rw [if_pos rfl]
    have bd := down_mul_bd (x := 2 * P + Q) (y := 2 * Q) (u := u) (a := 200000000000) (by omega) (by omega) u1 u2 (by omega)
    have HN := hid fun (w : World) => sdown (2 * P + Q) (2 * Q) w (by omega) (by omega) (by omega) (by omega)
    obtain ⟨N, hN⟩ : ∃ N, downI (2 * P + Q) (2 * Q) = N := ⟨_, rfl⟩
    rw [hN] at HN bd
    rw [hN, Int.mul_comm N u]
    rw [Int.mul_comm N u] at bd
    obtain ⟨c1, c2⟩ : -5000000000000 ≤ u * N ∧ u * N ≤ 5000000000000 := by omega
    have hw5 : IntKind.i64.wrap (2 * P) = 2 * P := IntWalk.i64_in _ (by omega)
    have hw6 : IntKind.i64.wrap (2 * P + Q) = 2 * P + Q := IntWalk.i64_in _ (by omega)
    have hw7 : IntKind.i64.wrap (2 * Q) = 2 * Q := IntWalk.i64_in _ (by omega)
    have hw8 : IntKind.i64.wrap u = u := IntWalk.i64_in _ (by omega)
    have hw4 : IntKind.i64.wrap (u * N) = u * N := IntWalk.i64_in _ (by omega)
    clear bd hN
    go_enter Try.func114, Try.ntmps114
    go_wp2_with fail
    refine wp_reg0 11 (by kernel_rfl) (by kernel_rfl) ?_
    apply Exists.intro
    refine ⟨fun wb hb => ?_, ?_⟩
    · obtain ⟨y0, y1, _, _⟩ := alloc2 (Gr.refl _)
      obtain ⟨_, _, _⟩ := hb.at3 y0
      obtain ⟨_, _⟩ := hb.at2 y1
      clear y0 y1
      simp only [headOps, List.contains, List.elem, reduceIte, Bool.false_eq_true]
      repeat (first | go_big_quiet_step (first | (go_at_call 154; exact Calls.of_same (HN.out _))) | quiet_step (fail))
      exact wpQuiet_nil rfl
    intro w1 hg1
    obtain ⟨x1_0, x1_1, hz1, g1⟩ := alloc2 hg1
    obtain ⟨_, _, _⟩ := cells3 x1_0
    have _ := fz x1_0
    have _ := ltb x1_0
    obtain ⟨_, _⟩ := cells2 x1_1
    have _ := fz x1_1
    have _ := ltb x1_1
    have X1_0 := hid x1_0; clear x1_0
    have X1_1 := hid x1_1; clear x1_1
    have G1 := hid (g1)
    clear hg1 g1
    go_wp2_with fail
    go_ret
    exact ⟨rfl, G1.out⟩
  | false =>
    rw [if_neg (by decide)]
    have bd := down_mul_bd (x := 2 * -P + Q) (y := 2 * Q) (u := u) (a := 200000000000) (by omega) (by omega) u1 u2 (by omega)
    have HN := hid fun (w : World) => sdown (2 * -P + Q) (2 * Q) w (by omega) (by omega) (by omega) (by omega)
    have e1 : 2 * -P + Q = Q - 2 * P := by omega
    rw [e1] at HN bd
    rw [e1]
    obtain ⟨N, hN⟩ : ∃ N, downI (Q - 2 * P) (2 * Q) = N := ⟨_, rfl⟩
    rw [hN] at HN bd
    rw [hN]
    have e2 : -N * u = -u * N := by rw [Int.neg_mul, Int.neg_mul, Int.mul_comm]
    have e3 : N * u = u * N := Int.mul_comm _ _
    rw [e3] at bd
    rw [e2]
    obtain ⟨c1, c2⟩ : -5000000000000 ≤ -u * N ∧ -u * N ≤ 5000000000000 := by rw [Int.neg_mul]; omega
    have hw5 : IntKind.i64.wrap (2 * P) = 2 * P := IntWalk.i64_in _ (by omega)
    have hw6 : IntKind.i64.wrap (Q - 2 * P) = Q - 2 * P := IntWalk.i64_in _ (by omega)
    have hw7 : IntKind.i64.wrap (2 * Q) = 2 * Q := IntWalk.i64_in _ (by omega)
    have hw8 : IntKind.i64.wrap u = u := IntWalk.i64_in _ (by omega)
    have hw9 : IntKind.i64.wrap (-u) = -u := IntWalk.i64_in _ (by omega)
    have hw4 : IntKind.i64.wrap (-u * N) = -u * N := IntWalk.i64_in _ (by omega)
    clear bd hN e1 e2 e3
    go_enter Try.func114, Try.ntmps114
    go_wp2_with fail
    refine wp_reg0 12 (by kernel_rfl) (by kernel_rfl) ?_
    apply Exists.intro
    refine ⟨fun wb hb => ?_, ?_⟩
    · obtain ⟨y0, y1, _, _⟩ := alloc2 (Gr.refl _)
      obtain ⟨_, _, _⟩ := hb.at3 y0
      obtain ⟨_, _⟩ := hb.at2 y1
      clear y0 y1
      simp only [headOps, List.contains, List.elem, reduceIte, Bool.false_eq_true]
      repeat (first | go_big_quiet_step (first | (go_at_call 154; exact Calls.of_same (HN.out _))) | quiet_step (fail))
      exact wpQuiet_nil rfl
    intro w1 hg1
    obtain ⟨x1_0, x1_1, hz1, g1⟩ := alloc2 hg1
    obtain ⟨_, _, _⟩ := cells3 x1_0
    have _ := fz x1_0
    have _ := ltb x1_0
    obtain ⟨_, _⟩ := cells2 x1_1
    have _ := fz x1_1
    have _ := ltb x1_1
    have X1_0 := hid x1_0; clear x1_0
    have X1_1 := hid x1_1; clear x1_1
    have G1 := hid (g1)
    clear hg1 g1
    go_wp2_with fail
    go_ret
    exact ⟨rfl, G1.out⟩
end Go.Proofs.Ytpadjkgbeijkpaa
