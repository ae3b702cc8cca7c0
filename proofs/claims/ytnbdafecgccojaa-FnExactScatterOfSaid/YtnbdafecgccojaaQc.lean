/- WALKS: MedianOf and ScatterOf, of the program; both sides joined. -/
import Derived.Test.YtnbdafecgccojaaQb
import Derived.Test.YtnbdafecgccojaaPx
import Derived.Test.YtnbdafecgccojaaSkh
namespace Go.Proofs.Ytnbdafecgccojaa
open Go.RowKit Go.Sort

/-! fractions in lowest terms -/
theorem uni_of {P Q P' Q' a b c d : Int} (h1 : okB P Q = true) (h2 : okB P' Q' = true) (hb : 0 < b) (hd : 0 < d) (e1 : P * b = a * Q) (e2 : P' * d = c * Q') (h : a * d = c * b) : P = P' ∧ Q = Q' := by
  refine same_of (okB_iff.1 h1) (okB_iff.1 h2) ?_
  have hbd : b * d ≠ 0 := Int.ne_of_gt (Int.mul_pos hb hd)
  refine Int.eq_of_mul_eq_mul_right hbd ?_
  have s1 : P * Q' * (b * d) = (P * b) * (Q' * d) := by ac_rfl
  have s2 : a * Q * (Q' * d) = (a * d) * (Q * Q') := by ac_rfl
  have s3 : c * b * (Q * Q') = (c * Q') * (b * Q) := by ac_rfl
  have s4 : P' * d * (b * Q) = P' * Q * (b * d) := by ac_rfl
  rw [s1, e1, s2, h, s3, ← e2, s4]
theorem red_uni {a b c d : Int} (hb : 0 < b) (hd : 0 < d) (h1 : okB (redP a b) (redQ a b) = true) (h2 : okB (redP c d) (redQ c d) = true) (h : a * d = c * b) : redP a b = redP c d ∧ redQ a b = redQ c d :=
  uni_of h1 h2 hb hd (red_mul hb) (red_mul hd) h
theorem red_self {p q : Int} (h : okB p q = true) : redP p q = p ∧ redQ p q = q := by
  obtain ⟨b1, b2, b3, b4⟩ := okB_bd h
  have hk := ok_red (p := p) (q := q) b3 b4 b1 b2
  exact uni_of hk h (by omega) (by omega) (red_mul (by omega)) rfl rfl
/-- What a fraction stands for: n / k. -/
def Is (x : Int × Int) (n k : Int) : Prop := okB x.1 x.2 = true ∧ x.1 * k = n * x.2
theorem Is.red {x : Int × Int} {n k : Int} (h : Is x n k) (hk : 0 < k) (ho : okB (redP n k) (redQ n k) = true) : x = (redP n k, redQ n k) := by
  obtain ⟨e1, e2⟩ := uni_of h.1 ho hk hk h.2 (red_mul hk) rfl
  exact Prod.ext e1 e2
theorem Is.of_red {n k : Int} (hk : 0 < k) (ho : okB (redP n k) (redQ n k) = true) : Is (redP n k, redQ n k) n k := ⟨ho, red_mul hk⟩
theorem Is.pos {x : Int × Int} {n k : Int} (h : Is x n k) : 0 < x.2 := by have := (okB_bd h.1).1; omega
/-- The sum of two. -/
theorem sm_two {x y : Int × Int} {a b k : Int} (hk : 0 < k) (hx : Is x a k) (hy : Is y b k) (ho : okB (redP (a + b) k) (redQ (a + b) k) = true) (hq : okB (redP (x.1 * y.2 + y.1 * x.2) (x.2 * y.2)) (redQ (x.1 * y.2 + y.1 * x.2) (x.2 * y.2)) = true) : sm [x, y] 0 1 = some (redP (a + b) k, redQ (a + b) k) := by
  obtain ⟨p, q⟩ := x
  obtain ⟨r, s⟩ := y
  have e0 : (0 : Int) * q + p * 1 = p := by omega
  have e1 : (1 : Int) * q = q := by omega
  obtain ⟨r1, r2⟩ := red_self hx.1
  obtain ⟨u1, u2⟩ := uni_of hq ho (Int.mul_pos hx.pos hy.pos) hk (red_mul (Int.mul_pos hx.pos hy.pos)) (red_mul hk) (by
    have h1 := hx.2; have h2 := hy.2
    simp only at h1 h2 ⊢
    have s1 : (p * s + r * q) * k = (p * k) * s + (r * k) * q := by rw [Int.add_mul]; congr 1 <;> ac_rfl
    have s2 : (a + b) * (q * s) = (a * q) * s + (b * s) * q := by rw [Int.add_mul]; congr 1 <;> ac_rfl
    rw [s1, s2, h1, h2])
  have hx1 := hx.1
  simp only at hq u1 u2 r1 r2 hx1
  simp only [sm, e0, e1, r1, r2, hx1, if_true, u1, u2, ho]
theorem mn_two {a k : Int} (hk : 0 < k) (ho : okB (redP a k) (redQ a k) = true) (h2 : okB (redP a (k * 2)) (redQ a (k * 2)) = true) (hq : okB (redP (redP a k * 1) (redQ a k * 2)) (redQ (redP a k * 1) (redQ a k * 2)) = true) : mn (2 : Nat) (some (redP a k, redQ a k)) = some (redP a (k * 2), redQ a (k * 2)) := by
  have hQ : 0 < redQ a k := by have := (okB_bd ho).1; omega
  obtain ⟨u1, u2⟩ := uni_of hq h2 (show 0 < redQ a k * 2 by omega) (show 0 < k * 2 by omega) (red_mul (by omega)) (red_mul (by omega)) (by
    have h1 := red_mul (p := a) hk
    have s1 : redP a k * 1 * (k * 2) = redP a k * k * 2 := by rw [Int.mul_one]; ac_rfl
    have s2 : a * (redQ a k * 2) = a * redQ a k * 2 := by ac_rfl
    rw [s1, s2, h1])
  have e : mn (2 : Nat) (some (redP a k, redQ a k)) = if okB (redP (redP a k * 1) (redQ a k * 2)) (redQ (redP a k * 1) (redQ a k * 2)) then some (redP (redP a k * 1) (redQ a k * 2), redQ (redP a k * 1) (redQ a k * 2)) else none := rfl
  rw [e, if_pos hq, u1, u2]
theorem leF_of {x y : Int × Int} {a b k : Int} (hk : 0 < k) (hx : Is x a k) (hy : Is y b k) (h : a ≤ b) : leF x y := by
  unfold leF
  refine Int.le_of_mul_le_mul_right (a := k) ?_ hk
  have s1 : x.1 * y.2 * k = (x.1 * k) * y.2 := by ac_rfl
  have s2 : y.1 * x.2 * k = (y.1 * k) * x.2 := by ac_rfl
  rw [s1, s2, hx.2, hy.2]
  have s3 : b * y.2 * x.2 = b * (x.2 * y.2) := by ac_rfl
  rw [s3, Int.mul_assoc]
  exact Int.mul_le_mul_of_nonneg_right h (Int.le_of_lt (Int.mul_pos hx.pos hy.pos))
theorem small_mul {p s : Int} (h1 : -4000000 ≤ p) (h2 : p ≤ 4000000) (h3 : 1 ≤ s) (h4 : s ≤ 10) : -40000000 ≤ p * s ∧ p * s ≤ 40000000 := by
  rcases (show s = 1 ∨ s = 2 ∨ s = 3 ∨ s = 4 ∨ s = 5 ∨ s = 6 ∨ s = 7 ∨ s = 8 ∨ s = 9 ∨ s = 10 by omega) with rfl | rfl | rfl | rfl | rfl | rfl | rfl | rfl | rfl | rfl <;> omega
theorem small_red {n k : Int} (hk : 1 ≤ k) (hk2 : k ≤ 10) (h1 : -4000000 ≤ n) (h2 : n ≤ 4000000) : -4000000 ≤ redP n k ∧ redP n k ≤ 4000000 ∧ 1 ≤ redQ n k ∧ redQ n k ≤ 10 := by
  obtain ⟨a1, a2⟩ := tdiv_bd n (Int.gcd n k) 4000000 h1 h2
  obtain ⟨b1, b2⟩ := tdiv_bd k (Int.gcd n k) 10 (by omega) hk2
  have hp := redQ_pos (p := n) (q := k) (by omega)
  have e1 : redP n k = n.tdiv (Int.gcd n k) := by unfold redP; rw [if_neg (by omega)]
  have e2 : redQ n k = k.tdiv (Int.gcd n k) := by unfold redQ; rw [if_neg (by omega)]
  rw [e1]
  rw [e2] at hp ⊢
  omega
/-- What is in the middle of integers that stand for a k-th each. -/
def toK (k : Int) (n : Int) : Int × Int := (redP n k, redQ n k)
theorem toK_is {k n : Int} (hk : 0 < k) (hk2 : k ≤ 1000 ) (h1 : -10000000 ≤ n) (h2 : n ≤ 10000000) : Is (toK k n) n k := Is.of_red hk (ok_red (by omega) (by omega) (by omega) (by omega))
theorem mid_toK (k : Int) (hk : 0 < k) (hk2 : k ≤ 10) (xs : List Int) (h0 : 0 < xs.length) (hb : ∀ x ∈ xs, -4000000 ≤ x ∧ x ≤ 4000000) : midO ((srt xs).map (toK k)) = some (redP (twM xs) (k * 2), redQ (twM xs) (k * 2)) := by
  have hm : ∀ i, i < xs.length → -4000000 ≤ (srt xs).getD i 0 ∧ (srt xs).getD i 0 ≤ 4000000 := fun i hi => by
    have hi' : i < (srt xs).length := by rw [srt_len]; exact hi
    rw [getD_lt hi']
    exact hb _ (srt_mem (List.getElem_mem hi'))
  have hg : ∀ i, i < xs.length → ((srt xs).map (toK k)).getD i (0, 0) = toK k ((srt xs).getD i 0) := fun i hi => by
    have hi' : i < (srt xs).length := by rw [srt_len]; exact hi
    rw [getD_lt hi']
    simp [List.getD_eq_getElem?_getD, hi']
  unfold midO
  rw [List.length_map, srt_len]
  by_cases ho : xs.length % 2 = 1
  · rw [if_pos ho, hg _ (by omega)]
    have e : (xs.length - 1) / 2 = xs.length / 2 := by omega
    obtain ⟨b1, b2⟩ := hm (xs.length / 2) (by omega)
    unfold twM
    rw [e]
    obtain ⟨z, hz⟩ : ∃ z, (srt xs).getD (xs.length / 2) 0 = z := ⟨_, rfl⟩
    rw [hz] at b1 b2 ⊢
    obtain ⟨u1, u2⟩ := red_uni (a := z) (b := k) (c := z + z) (d := k * 2) hk (by omega) (ok_red (by omega) (by omega) (by omega) (by omega)) (ok_red (by omega) (by omega) (by omega) (by omega)) (by rw [Int.add_mul, ← Int.mul_assoc]; omega)
    unfold toK
    rw [u1, u2]
  · rw [if_neg ho, hg _ (by omega), hg _ (by omega)]
    have e : (xs.length - 1) / 2 = xs.length / 2 - 1 := by omega
    obtain ⟨b1, b2⟩ := hm (xs.length / 2) (by omega)
    obtain ⟨b3, b4⟩ := hm (xs.length / 2 - 1) (by omega)
    unfold twM
    rw [e]
    obtain ⟨z, hz⟩ : ∃ z, (srt xs).getD (xs.length / 2) 0 = z := ⟨_, rfl⟩
    obtain ⟨y, hy⟩ : ∃ y, (srt xs).getD (xs.length / 2 - 1) 0 = y := ⟨_, rfl⟩
    rw [hz] at b1 b2 ⊢
    rw [hy] at b3 b4 ⊢
    have I1 := toK_is (k := k) (n := y) hk (by omega) (by omega) (by omega)
    have I2 := toK_is (k := k) (n := z) hk (by omega) (by omega) (by omega)
    obtain ⟨p1, p2, p3, p4⟩ := small_red (n := y) (k := k) (by omega) hk2 b3 b4
    obtain ⟨q1, q2, q3, q4⟩ := small_red (n := z) (k := k) (by omega) hk2 b1 b2
    obtain ⟨m1, m2⟩ := small_mul p1 p2 q3 q4
    obtain ⟨m3, m4⟩ := small_mul q1 q2 p3 p4
    obtain ⟨m5, m6⟩ := small_mul (p := redQ y k) (by omega) (by omega) q3 q4
    have m7 : 0 < redQ y k * redQ z k := Int.mul_pos (by omega) (by omega)
    have ho1 := ok_red (p := y + z) (q := k) (by omega) (by omega) (by omega) (by omega)
    have ho2 := ok_red (p := y + z) (q := k * 2) (by omega) (by omega) (by omega) (by omega)
    have hs := sm_two hk I1 I2 ho1 (by
      show okB (redP (redP y k * redQ z k + redP z k * redQ y k) (redQ y k * redQ z k)) (redQ (redP y k * redQ z k + redP z k * redQ y k) (redQ y k * redQ z k)) = true
      exact ok_red (by omega) (by omega) (by omega) (by omega))
    rw [hs]
    obtain ⟨b1', b2'⟩ := okB_bd ho1
    exact mn_two hk ho1 ho2 (ok_red (by omega) (by omega) (by omega) (by
      have := tdiv_bd k (Int.gcd (y + z) k) 10 (by omega) hk2
      have e2 : redQ (y + z) k = k.tdiv (Int.gcd (y + z) k) := by unfold redQ; rw [if_neg (by omega)]
      omega))
theorem mid_perm (f : Int → Int × Int) (g : Int → Int) (k : Int) (xs : List Int) (hf : ∀ x ∈ xs, f x = toK k (g x)) : ((srt (xs.map g)).map (toK k)).Perm (xs.map f) := by
  have e : xs.map f = (xs.map g).map (toK k) := by
    rw [List.map_map]
    exact List.map_congr_left hf
  rw [e]
  exact (srt_perm _).map _
theorem mid_sorted (k : Int) (hk : 0 < k) (hk2 : k ≤ 1000) (ys : List Int) (hb : ∀ x ∈ ys, -10000000 ≤ x ∧ x ≤ 10000000) : ((srt ys).map (toK k)).Pairwise leF := by
  rw [List.pairwise_map]
  refine List.Pairwise.imp_of_mem ?_ (srt_pair ys)
  intro a b ha hb' hab
  obtain ⟨a1, a2⟩ := hb a (srt_mem ha)
  obtain ⟨c1, c2⟩ := hb b (srt_mem hb')
  exact leF_of hk (toK_is hk hk2 a1 a2) (toK_is hk hk2 c1 c2) hab
/-! medianBy -/
set_option maxRecDepth 20000 in
set_option maxHeartbeats 1000000 in
theorem imedianBy (F : Nat) (cap : Array Value) (f : Int → Int × Int) (g : Int → Int) (k : Int) (A : Option Addr) (c : Nat) (xs : List Int) (w : World) (X : Hid (RdI w A xs)) (h0 : 0 < xs.length) (hn : xs.length ≤ 64) (hk : 0 < k) (hk2 : k ≤ 10)
    (hfg : ∀ x ∈ xs, f x = toK k (g x)) (hb : ∀ x ∈ xs, -4000000 ≤ g x ∧ g x ≤ 4000000)
    (hen : ∀ s w, (callFunc F (#[.int .i64 s] ++ cap)).run Try.prog w = .ok (.enter F (#[.int .i64 s] ++ cap)) w)
    (hF : ∀ s w', s ∈ xs → Gr w w' → Calls Try.prog F (#[.int .i64 s] ++ cap) w' fun e w'' => e = .returned (fr (f s).1 (f s).2) ∧ Gr w' w'') :
    Calls Try.prog 179 #[.slice A xs.length c, .func (.func F) #[] cap] w fun e w' => e = .returned (fr (redP (twM (xs.map g)) (k * 2)) (redQ (twM (xs.map g)) (k * 2))) ∧ Gr w w' := by
  have hb2 : ∀ y ∈ xs.map g, -4000000 ≤ y ∧ y ≤ 4000000 := fun y hy => by
    obtain ⟨x, hx, rfl⟩ := List.mem_map.1 hy
    exact hb x hx
  have HV := hid fun (w' : World) (hg : Gr w w') (Z : Hid (RdI w' A xs)) => ivaluesI F cap f A c xs w' Z hn hen fun s w2 hs hg2 => hF s w2 hs (hg.trans hg2)
  have HM := hid fun (B : Option Addr) (d : Nat) (w' : World) (Z : Hid (RdF w' B (xs.map f))) => imiddle B d (xs.map f) ((srt (xs.map g)).map (toK k)) w' Z (by simpa using h0) (by simpa using hn) (fun x hx => by
    obtain ⟨y, hy, rfl⟩ := List.mem_map.1 hx
    rw [hfg y hy]
    obtain ⟨b1, b2⟩ := hb y hy
    exact (toK_is hk (by omega) (by omega) (by omega)).1) (mid_perm f g k xs hfg) (mid_sorted k hk (by omega) _ fun y hy => by obtain ⟨b1, b2⟩ := hb2 y hy; omega)
  rw [mid_toK k hk hk2 _ (by simpa using h0) hb2] at HM
  obtain ⟨P, hP⟩ : ∃ P, redP (twM (xs.map g)) (k * 2) = P := ⟨_, rfl⟩
  obtain ⟨Q, hQ⟩ : ∃ Q, redQ (twM (xs.map g)) (k * 2) = Q := ⟨_, rfl⟩
  rw [hP, hQ] at HM ⊢
  have HM2 := hid fun (B : Option Addr) (d : Nat) (w' : World) (Z : Hid (RdF w' B (xs.map f))) => OutF.yes (HM.out B d w' Z)
  simp only [List.length_map] at HM2
  clear hF hfg hb hb2 hP hQ HM
  go_enter Try.func179, Try.ntmps179
  go_wp2_with fail
  refine (HV.out _ ((Gr.refl w).al _) (hid (X.out.keep ((Gr.refl w).al _)))).mono ?_
  rintro e w1 ⟨g', rfl, hx, hsz, hg⟩
  obtain ⟨x0, _, G1⟩ := alloc1 hg
  have X0 := hid x0; have G1 := hid G1
  have R := hid (RdF.of_block hx)
  clear hg x0 hx HV
  go_wp2_with fail
  refine (HM2.out _ _ _ R).mono ?_
  rintro e w2 ⟨rfl, hg2⟩
  have X2 := hid (hg2.keep X0.out); have G2 := hid (G1.out.trans hg2)
  clear hg2 R
  obtain ⟨_, _⟩ := cells2 X2.out
  have _ := fz X2.out
  have _ := ltb X2.out
  go_wp2_with fail
  refine bodyPost_ret (v := fr P Q) (by simp [results, Try.results179, go_sem, *]) rfl ⟨rfl, ?_⟩
  exact (G2.out.setCell (by simp) _).setCell (by simp) _
theorem toK_one {n : Int} (h1 : -1000000000 ≤ n) (h2 : n ≤ 1000000000) : (n, (1 : Int)) = toK 1 n := by
  obtain ⟨e1, e2⟩ := red_self (ok_whl h1 h2)
  unfold toK
  rw [e1, e2]
set_option maxRecDepth 20000 in
set_option maxHeartbeats 1000000 in
theorem imedianOf (A : Option Addr) (c : Nat) (xs : List Int) (w : World) (X : Hid (RdI w A xs)) (h : rdB xs = true) :
    Calls Try.prog 102 #[.slice A xs.length c] w fun e w' => e = .returned (fr (redP (twM xs) 2) (redQ (twM xs) 2)) ∧ Gr w w' := by
  obtain ⟨h1, h64, ha⟩ := rd_parts h
  have hb : ∀ x ∈ xs, -1000000 ≤ x ∧ x ≤ 1000000 := fun x hx => okR_bd (List.all_eq_true.1 ha x hx)
  have HM := hid fun (w : World) (X : Hid (RdI w A xs)) => imedianBy 168 #[] (fun x => (x, 1)) (fun x => x) 1 A c xs w X h1 h64 (by omega) (by omega) (fun x hx => toK_one (by have := hb x hx; omega) (by have := hb x hx; omega)) (fun x hx => by have := hb x hx; omega) (fun _ _ => by kernel_rfl) fun s w' hs _ => iwhole s w' (by have := hb s hs; omega) (by have := hb s hs; omega)
  rw [List.map_id'] at HM
  clear h ha hb
  obtain ⟨P, hP⟩ : ∃ P, redP (twM xs) (1 * 2) = P := ⟨_, rfl⟩
  obtain ⟨Q, hQ⟩ : ∃ Q, redQ (twM xs) (1 * 2) = Q := ⟨_, rfl⟩
  rw [hP, hQ] at HM
  rw [← Int.one_mul 2, hP, hQ]
  clear hP hQ
  go_enter Try.func102, Try.ntmps102
  go_wp2_with fail
  refine (HM.out _ (hid (X.out.keep ((Gr.refl w).al _)))).mono ?_
  rintro e w1 ⟨rfl, hg1⟩
  obtain ⟨x1_0, hz1, g1⟩ := alloc1 hg1
  obtain ⟨_, _⟩ := cells2 x1_0
  have _ := fz x1_0
  have _ := ltb x1_0
  have X1_0 := hid x1_0; clear x1_0
  have G1 := hid (g1)
  clear hg1 g1
  go_wp2
  refine bodyPost_ret (v := fr P Q) (by simp [results, Try.results102, go_sem, *]) rfl ⟨rfl, ?_⟩
  exact ((G1.out).setCell (by simp <;> omega) _).setCell (by simp <;> omega) _
/-! distances -/
theorem abs_mul' {x y a b : Int} (ha : 0 ≤ a) (hb : 0 ≤ b) (h : x * a = y * b) : (x.natAbs : Int) * a = (y.natAbs : Int) * b := by
  obtain ⟨a, rfl⟩ := Int.eq_ofNat_of_zero_le ha
  obtain ⟨b, rfl⟩ := Int.eq_ofNat_of_zero_le hb
  have e := congrArg Int.natAbs h
  rw [Int.natAbs_mul, Int.natAbs_mul, Int.natAbs_natCast, Int.natAbs_natCast] at e
  rw [← Int.natCast_mul, ← Int.natCast_mul, e]
def farP (M : Int) (n : Int) : Int := absI (redP (n * redQ M 2 - redP M 2 * 1) (1 * redQ M 2))
def farQ (M : Int) (n : Int) : Int := redQ (n * redQ M 2 - redP M 2 * 1) (1 * redQ M 2)
theorem far_ok {M n : Int} (hM : -2000000 ≤ M ∧ M ≤ 2000000) (hn : -1000000 ≤ n ∧ n ≤ 1000000) : okB (redP M 2) (redQ M 2) = true ∧ okB (redP (n * redQ M 2 - redP M 2 * 1) (1 * redQ M 2)) (redQ (n * redQ M 2 - redP M 2 * 1) (1 * redQ M 2)) = true ∧ (farP M n, farQ M n) = toK 2 ((2 * n - M).natAbs : Int) := by
  obtain ⟨p1, p2, p3, p4⟩ := small_red (n := M) (k := 2) (by omega) (by omega) (by omega) (by omega)
  obtain ⟨m1, m2⟩ := small_mul (p := n) (by omega) (by omega) p3 p4
  have hm := red_mul (p := M) (q := 2) (by omega)
  unfold farP farQ
  obtain ⟨P, hP⟩ : ∃ P, redP M 2 = P := ⟨_, rfl⟩
  obtain ⟨Q, hQ⟩ : ∃ Q, redQ M 2 = Q := ⟨_, rfl⟩
  rw [hP] at p1 p2 hm ⊢
  rw [hQ] at p3 p4 m1 m2 hm ⊢
  have h0 : okB P Q = true := by rw [← hP, ← hQ]; exact ok_red (by omega) (by omega) (by omega) (by omega)
  have h1 : okB (redP (n * Q - P * 1) (1 * Q)) (redQ (n * Q - P * 1) (1 * Q)) = true := ok_red (by omega) (by omega) (by omega) (by omega)
  refine ⟨h0, h1, ?_⟩
  have hk : 0 < 1 * Q := by omega
  have e1 := red_mul (p := n * Q - P * 1) hk
  have h2 : okB (redP ((2 * n - M).natAbs : Int) 2) (redQ ((2 * n - M).natAbs : Int) 2) = true := ok_red (by omega) (by omega) (by omega) (by omega)
  have e2 := red_mul (p := ((2 * n - M).natAbs : Int)) (q := 2) (by omega)
  have hq := (okB_bd h1).1
  obtain ⟨u1, u2⟩ := uni_of (a := ((n * Q - P * 1).natAbs : Int)) (absI_bd h1) h2 hk (show (0 : Int) < 2 by omega) (by
    unfold absI
    exact abs_mul' (by omega) (by omega) e1) e2 (by
    have e5 : (n * Q - P * 1) * 2 = (2 * n - M) * (1 * Q) := by
      rw [Int.sub_mul, Int.sub_mul, Int.one_mul, ← hm, Int.mul_one]
      have : n * Q * 2 = 2 * n * Q := by ac_rfl
      omega
    exact abs_mul' (by omega) (by omega) e5)
  unfold toK
  rw [u1, u2]
set_option maxRecDepth 20000 in
set_option maxHeartbeats 1000000 in
theorem cdist (M n : Int) (k : Nat) (w : World) (X1 : Hid (w.heap[k]? = some (.cells #[.int .i64 (redP M 2), .int .i64 (redQ M 2)] 30))) (hM : -2000000 ≤ M ∧ M ≤ 2000000) (hn : -1000000 ≤ n ∧ n ≤ 1000000) :
    Calls Try.prog 238 #[.int .i64 n, .pointer (some ⟨k, 0, none⟩)] w fun e w' => e = .returned (fr (farP M n) (farQ M n)) ∧ Gr w w' := by
  obtain ⟨h1, h2, _⟩ := far_ok hM hn
  have HW := hid fun w => iwhole n w (by omega) (by omega)
  have HMI := hid fun w => minus_yes n 1 (redP M 2) (redQ M 2) w (ok_whl (by omega) (by omega)) h1 h2
  have HS := hid fun w => isize_gr (redP (n * redQ M 2 - redP M 2 * 1) (1 * redQ M 2)) (redQ (n * redQ M 2 - redP M 2 * 1) (1 * redQ M 2)) w h2
  unfold farP farQ
  obtain ⟨U, hU⟩ : ∃ U, redP (n * redQ M 2 - redP M 2 * 1) (1 * redQ M 2) = U := ⟨_, rfl⟩
  obtain ⟨V, hV⟩ : ∃ V, redQ (n * redQ M 2 - redP M 2 * 1) (1 * redQ M 2) = V := ⟨_, rfl⟩
  rw [hU, hV] at HMI HS ⊢
  clear h1 h2 hM hn hU hV
  obtain ⟨P, hP⟩ : ∃ P, redP M 2 = P := ⟨_, rfl⟩
  obtain ⟨Q, hQ⟩ : ∃ Q, redQ M 2 = Q := ⟨_, rfl⟩
  rw [hP, hQ] at HMI X1
  clear hP hQ
  go_enter Try.func238, Try.ntmps238
  obtain ⟨_, _⟩ := cells2 X1.out
  have _ := fz X1.out
  have _ := ltb X1.out
  go_wp2_with fail
  refine wp_reg0 5 (by kernel_rfl) (by kernel_rfl) ?_
  apply Exists.intro
  refine ⟨fun wb hb => ?_, ?_⟩
  · obtain ⟨y0, _, _⟩ := alloc1 (Gr.refl _)
    obtain ⟨_, _⟩ := hb.at2 y0
    clear y0
    obtain ⟨_, _⟩ := hb.at2 (((Gr.refl _).al _).keep X1.out)
    simp only [headOps, List.contains, List.elem, reduceIte, Bool.false_eq_true]
    repeat (first | go_big_quiet_step (first | (go_at_call 168; exact Calls.of_gr (HW.out _)) | (go_at_call 160; exact Calls.of_gr (HMI.out _)) | (go_at_call 225; exact Calls.of_gr (HS.out _))) | quiet_step (fail))
    exact wpQuiet_nil rfl
  intro w1 hg1
  obtain ⟨x1_0, hz1, g1⟩ := alloc1 hg1
  have x1_1 := g1.keep X1.out
  obtain ⟨_, _⟩ := cells2 x1_0
  have _ := fz x1_0
  have _ := ltb x1_0
  obtain ⟨_, _⟩ := cells2 x1_1
  have _ := fz x1_1
  have _ := ltb x1_1
  have X1_0 := hid x1_0; clear x1_0
  have X1_1 := hid x1_1; clear x1_1
  have G1 := hid (g1)
  clear hg1 g1
  go_wp2
  refine bodyPost_ret (v := fr (absI U) V) (by simp [results, Try.results238, go_sem, *]) rfl ⟨rfl, ?_⟩
  exact ((G1.out).setCell (by simp <;> omega) _).setCell (by simp <;> omega) _
set_option maxRecDepth 20000 in
set_option maxHeartbeats 1000000 in
theorem idistanceIn (A : Option Addr) (c : Nat) (xs : List Int) (w : World) (X : Hid (RdI w A xs)) (h : rdB xs = true) :
    Calls Try.prog 180 #[.slice A xs.length c] w fun e w' => ∃ b, e = .returned (.func (.func 238) #[] #[.pointer (some ⟨b, 0, none⟩)]) ∧ w'.heap[b]? = some (.cells #[.int .i64 (redP (twM xs) 2), .int .i64 (redQ (twM xs) 2)] 30) ∧ Gr w w' := by
  have HM := hid fun (w : World) (X : Hid (RdI w A xs)) => imedianOf A c xs w X h
  clear h
  obtain ⟨P, hP⟩ : ∃ P, redP (twM xs) 2 = P := ⟨_, rfl⟩
  obtain ⟨Q, hQ⟩ : ∃ Q, redQ (twM xs) 2 = Q := ⟨_, rfl⟩
  rw [hP, hQ] at HM ⊢
  clear hP hQ
  go_enter Try.func180, Try.ntmps180
  go_wp2_with fail
  refine (HM.out _ X).mono ?_
  rintro e w1 ⟨rfl, hg⟩
  have G1 := hid hg
  clear hg
  go_wp2_with fail
  go_ret
  exact ⟨w1.heap.size, rfl, (alloc1 (Gr.refl _)).1, G1.out.al _⟩
set_option maxRecDepth 20000 in
set_option maxHeartbeats 1000000 in
theorem iscatterOf (A : Option Addr) (c : Nat) (xs : List Int) (w : World) (X : Hid (RdI w A xs)) (h : rdB xs = true) :
    Calls Try.prog 104 #[.slice A xs.length c] w fun e w' => e = .returned (fr (redP (twS xs) 4) (redQ (twS xs) 4)) ∧ Gr w w' := by
  obtain ⟨h1, h64, ha⟩ := rd_parts h
  have hb : ∀ x ∈ xs, -1000000 ≤ x ∧ x ≤ 1000000 := fun x hx => okR_bd (List.all_eq_true.1 ha x hx)
  have hM := twM_bd h1 ha
  have HD := hid fun (w : World) (X : Hid (RdI w A xs)) => idistanceIn A c xs w X h
  have HB := hid fun (b : Nat) (w : World) (X1 : Hid (w.heap[b]? = some (.cells #[.int .i64 (redP (twM xs) 2), .int .i64 (redQ (twM xs) 2)] 30))) (X : Hid (RdI w A xs)) => imedianBy 238 #[.pointer (some ⟨b, 0, none⟩)] (fun x => (farP (twM xs) x, farQ (twM xs) x)) (fun x => ((2 * x - twM xs).natAbs : Int)) 2 A c xs w X h1 h64 (by omega) (by omega) (fun x hx => (far_ok hM (hb x hx)).2.2) (fun x hx => by have := hb x hx; omega) (fun _ _ => by kernel_rfl) fun s w' hs hg => cdist (twM xs) s b w' (hid (hg.keep X1.out)) hM (hb s hs)
  have e : twM (xs.map fun x => ((2 * x - twM xs).natAbs : Int)) = twS xs := rfl
  rw [e, show (2 : Int) * 2 = 4 by omega] at HB
  clear h ha hb hM e
  obtain ⟨P, hP⟩ : ∃ P, redP (twS xs) 4 = P := ⟨_, rfl⟩
  obtain ⟨Q, hQ⟩ : ∃ Q, redQ (twS xs) 4 = Q := ⟨_, rfl⟩
  rw [hP, hQ] at HB ⊢
  clear hP hQ
  go_enter Try.func104, Try.ntmps104
  go_wp2_with fail
  refine (HD.out _ (hid (X.out.keep ((Gr.refl w).al _)))).mono ?_
  rintro e w1 ⟨b, rfl, hx, hg⟩
  obtain ⟨x0, _, G1⟩ := alloc1 hg
  have X0 := hid x0; have G1 := hid G1; have XB := hid hx
  clear hg x0 hx HD
  go_wp2_with fail
  refine (HB.out _ _ XB (hid (X.out.keep G1.out))).mono ?_
  rintro e w2 ⟨rfl, hg2⟩
  have X2 := hid (hg2.keep X0.out); have G2 := hid (G1.out.trans hg2)
  clear hg2
  obtain ⟨_, _⟩ := cells2 X2.out
  have _ := fz X2.out
  have _ := ltb X2.out
  go_wp2_with fail
  refine bodyPost_ret (v := fr P Q) (by simp [results, Try.results104, go_sem, *]) rfl ⟨rfl, ?_⟩
  exact (G2.out.setCell (by simp) _).setCell (by simp) _
/-! both sides -/
set_option maxRecDepth 20000 in
set_option maxHeartbeats 400000 in
theorem iMedian_to (A : Option Addr) (c n : Nat) (P Q C : Int) (w : World) (ho : ∀ w', Gr w w' → Calls Try.prog 101 #[.slice A n c, .func (.func 102) #[] #[]] w' fun e w'' => e = .returned (.tuple #[fr P Q, .int .i64 C]) ∧ Gr w' w'') :
    Calls Try.prog 38 #[.slice A n c] w fun e w' => e = .returned (.tuple #[fr P Q, .int .i64 C]) ∧ Gr w w' := by
  have HO := hid ho; clear ho
  go_enter Try.func38, Try.ntmps38
  go_wp2_with fail
  refine (HO.out _ ((Gr.refl w).al _)).mono ?_
  rintro e w1 ⟨rfl, hg1⟩
  obtain ⟨x1_0, hz1, g1⟩ := alloc1 hg1
  obtain ⟨_, _⟩ := cells2 x1_0
  have _ := fz x1_0
  have _ := ltb x1_0
  have X1_0 := hid x1_0; clear x1_0
  have G1 := hid (g1)
  clear hg1 g1
  go_wp2
  refine bodyPost_ret (v := .tuple #[fr P Q, .int .i64 C]) (by simp [results, Try.results38, go_sem, *]) rfl ⟨rfl, ?_⟩
  exact ((G1.out).setCell (by simp <;> omega) _).setCell (by simp <;> omega) _
set_option maxRecDepth 20000 in
set_option maxHeartbeats 400000 in
theorem iScatter_to (A : Option Addr) (c n : Nat) (P Q C : Int) (w : World) (ho : ∀ w', Gr w w' → Calls Try.prog 101 #[.slice A n c, .func (.func 104) #[] #[]] w' fun e w'' => e = .returned (.tuple #[fr P Q, .int .i64 C]) ∧ Gr w' w'') :
    Calls Try.prog 41 #[.slice A n c] w fun e w' => e = .returned (.tuple #[fr P Q, .int .i64 C]) ∧ Gr w w' := by
  have HO := hid ho; clear ho
  go_enter Try.func41, Try.ntmps41
  go_wp2_with fail
  refine (HO.out _ ((Gr.refl w).al _)).mono ?_
  rintro e w1 ⟨rfl, hg1⟩
  obtain ⟨x1_0, hz1, g1⟩ := alloc1 hg1
  obtain ⟨_, _⟩ := cells2 x1_0
  have _ := fz x1_0
  have _ := ltb x1_0
  have X1_0 := hid x1_0; clear x1_0
  have G1 := hid (g1)
  clear hg1 g1
  go_wp2
  refine bodyPost_ret (v := .tuple #[fr P Q, .int .i64 C]) (by simp [results, Try.results41, go_sem, *]) rfl ⟨rfl, ?_⟩
  exact ((G1.out).setCell (by simp <;> omega) _).setCell (by simp <;> omega) _
theorem bothMedianOf (xs : List Int) (hn : xs.length ≤ 1048576) : ∃ P Q C : Int,
    (∀ (A : Option Addr) (c : Nat) (w : World), Hid (RdI w A xs) → Calls Try.prog 36 #[.slice A xs.length c] w fun e w' => e = .returned (.tuple #[fr P Q, .int .i64 C]) ∧ Gr w w') ∧
    (∀ (A : Option Addr) (c : Nat) (w : World), Hid (RdI w A xs) → Calls Try.prog 38 #[.slice A xs.length c] w fun e w' => e = .returned (.tuple #[fr P Q, .int .i64 C]) ∧ Gr w w') := by
  cases h : rdB xs with
  | false => exact ⟨0, 0, 2, fun A c w X => sMedian_no A c xs w X hn h, fun A c w X => iMedian_to A c _ 0 0 2 w fun w' hg => ofR_F_no _ _ A c xs w' (hid (X.out.keep hg)) h⟩
  | true => exact ⟨_, _, 0, fun A c w X => sMedian_yes A c xs w X h, fun A c w X => iMedian_to A c _ _ _ 0 w fun w' hg => ofR_F_yes _ _ A c xs _ _ w' (hid (X.out.keep hg)) h (fun _ => by kernel_rfl) fun w2 hg2 => imedianOf A c xs w2 (hid (X.out.keep (hg.trans hg2))) h⟩
theorem bothScatterOf (xs : List Int) (hn : xs.length ≤ 1048576) : ∃ P Q C : Int,
    (∀ (A : Option Addr) (c : Nat) (w : World), Hid (RdI w A xs) → Calls Try.prog 40 #[.slice A xs.length c] w fun e w' => e = .returned (.tuple #[fr P Q, .int .i64 C]) ∧ Gr w w') ∧
    (∀ (A : Option Addr) (c : Nat) (w : World), Hid (RdI w A xs) → Calls Try.prog 41 #[.slice A xs.length c] w fun e w' => e = .returned (.tuple #[fr P Q, .int .i64 C]) ∧ Gr w w') := by
  cases h : rdB xs with
  | false => exact ⟨0, 0, 2, fun A c w X => sScatter_no A c xs w X hn h, fun A c w X => iScatter_to A c _ 0 0 2 w fun w' hg => ofR_F_no _ _ A c xs w' (hid (X.out.keep hg)) h⟩
  | true => exact ⟨_, _, 0, fun A c w X => sScatter_yes A c xs w X h, fun A c w X => iScatter_to A c _ _ _ 0 w fun w' hg => ofR_F_yes _ _ A c xs _ _ w' (hid (X.out.keep hg)) h (fun _ => by kernel_rfl) fun w2 hg2 => iscatterOf A c xs w2 (hid (X.out.keep (hg.trans hg2))) h⟩
end Go.Proofs.Ytnbdafecgccojaa
