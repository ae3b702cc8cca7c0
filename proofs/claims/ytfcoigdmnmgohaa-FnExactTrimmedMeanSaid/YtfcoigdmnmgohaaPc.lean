/- WALKS: the values of readings, their mean; MeanDifference, of the program and of the reference. -/
import Derived.Test.YtfcoigdmnmgohaaPb
import Derived.Test.YtfcoigdmnmgohaaFx
import Derived.Test.YtfcoigdmnmgohaaIv
import Derived.Test.YtfcoigdmnmgohaaIw
namespace Go.Proofs.Ytfcoigdmnmgohaa
open Go.RowKit Go.Sort

set_option maxRecDepth 20000 in
set_option maxHeartbeats 400000 in
theorem iwhole (n : Int) (w : World) (h1 : -1000000000 ≤ n) (h2 : n ≤ 1000000000) :
    Calls Try.prog 107 #[.int .i64 n] w fun e w' => e = .returned (fr n 1) ∧ Gr w w' := by
  have hg : gtB n 1000000000 = false := by unfold gtB; simp; omega
  have hf := hid hg; clear hg
  go_enter Try.func107, Try.ntmps107
  go_wp2_with fail
  refine (fit_ok _ _ _ hf.out (by decide)).mono ?_
  rintro e w1 ⟨rfl, hg1⟩
  obtain ⟨x1_0, hz1, g1⟩ := alloc1 hg1
  obtain ⟨_, _⟩ := cells2 x1_0
  have _ := fz x1_0
  have _ := ltb x1_0
  have X1_0 := hid x1_0; clear x1_0
  have G1 := hid (g1)
  clear hg1 g1
  go_wp2
  refine bodyPost_ret (v := fr n 1) (by simp [results, Try.results107, go_sem, *]) rfl ⟨rfl, ?_⟩
  exact ((G1.out).setCell (by simp <;> omega) _).setCell (by simp <;> omega) _
set_option maxRecDepth 20000 in
set_option maxHeartbeats 1000000 in
/-- impl.valuesBy of integers: how the values are gathered -/
theorem ivaluesI (F : Nat) (cap : Array Value) (f : Int → Int × Int) (A : Option Addr) (c : Nat) (xs : List Int) (w : World) (X : Hid (RdI w A xs)) (hn : xs.length ≤ 64)
    (hen : ∀ s w, (callFunc F (#[.int .i64 s] ++ cap)).run Try.prog w = .ok (.enter F (#[.int .i64 s] ++ cap)) w)
    (hF : ∀ s w', s ∈ xs → Gr w w' → Calls Try.prog F (#[.int .i64 s] ++ cap) w' fun e w'' => e = .returned (fr (f s).1 (f s).2) ∧ Gr w' w'') :
    Calls Try.prog 163 #[.slice A xs.length c, .func (.func F) #[] cap] w fun e w' => ∃ g', e = .returned (sl g' xs.length) ∧ w'.heap[g']? = some (.cells (flatA (xs.map f)) 30) ∧ w.heap.size ≤ g' ∧ Gr w w' := by
  have hmk := make_fracs xs.length (by omega)
  have HF := hid hF; clear hF
  obtain ⟨ys, hys⟩ : ∃ ys, xs.map f = ys := ⟨_, rfl⟩
  have hyl : ys.length = xs.length := by rw [← hys]; simp
  have HYL := hid hyl
  rw [hys]
  have HYS := hid hys
  clear hyl hys
  go_enter Try.func163, Try.ntmps163
  go_wp2_with fail
  go_loopw [13] (fun u wr => ∃ (k : Nat), u = .int .i64 (k : Int) ∧ k ≤ xs.length ∧ Gr w wr ∧ wr.heap[w.heap.size]? = some (.cells (flatA (ys.take k ++ List.replicate (ys.length - k) (0, 0))) 30)) (fun u _ => xs.length - (intOf u).toNat)
  case atStart =>
    refine ⟨0, rfl, by omega, (Gr.refl _).al _, ?_⟩
    have h := (alloc1 (Gr.refl (w.alloc (.cells (flatA (List.replicate xs.length (0, 0))) 30)))).1
    rw [← HYL.out] at h ⊢
    simpa using h
  case round =>
    obtain ⟨k, rfl, hk, g0, y3⟩ := hrel
    have GW := hid g0; have Y3 := hid y3
    clear g0 y3 hmk
    by_cases hlt : k < xs.length
    · obtain ⟨p, hp⟩ : ∃ p, xs[k]? = some p := ⟨xs[k], List.getElem?_eq_getElem _⟩
      obtain ⟨ad, rfl, c1⟩ := (X.out.keep GW.out) k p hp
      obtain ⟨q, hq⟩ : ∃ q, f p = q := ⟨_, rfl⟩
      have hyk : ys[k]? = some q := by rw [← HYS.out, List.getElem?_map, hp, ← hq]; rfl
      have CF := hid (HF.out p wr (List.mem_of_getElem? hp) GW.out)
      rw [hq] at CF
      obtain ⟨q1, q2⟩ := q
      have HYK := hid hyk
      clear hq hyk hp
      go_wp2_with fail
      refine CF.out.mono ?_
      rintro e w6 ⟨rfl, hg6⟩
      have G6 := hid (GW.out.trans hg6)
      have x1 := hg6.keep Y3.out
      have f1 := fz x1
      have _ := ltb x1
      have hky : k < ys.length := by rw [HYL.out]; exact hlt
      obtain ⟨c3, c4⟩ := flat_cells x1 (take_get hky)
      have X1 := hid x1
      clear hg6 x1 hky
      go_wp2_with fail
      refine ⟨⟨k + 1, by simp, by omega, (G6.out.setCell (by simp) _).setCell (by simp) _, ?_⟩, by simp [intOf]; omega⟩
      have h := flat_store (k := k) q1 q2 X1.out
      rw [take_step HYK.out] at h
      exact h
    · have hke : k = xs.length := by omega
      have Y3 : Hid (wr.heap[w.heap.size]? = some (.cells (flatA ys) 30)) := hid (by
        have h := Y3.out
        rw [hke, ← HYL.out] at h
        simpa using h)
      clear hke
      go_wp2_with fail
      go_ret
      exact ⟨w.heap.size, rfl, Y3.out, Nat.le_refl _, GW.out⟩

/-! sums of whole numbers -/
theorem red_one (x : Int) : redP (x * 1) (1 * 1) = x ∧ redQ (x * 1) (1 * 1) = 1 := by
  unfold redP redQ
  simp
theorem ok_whl {x : Int} (h1 : -1000000000 ≤ x) (h2 : x ≤ 1000000000) : okB x 1 = true := by
  rw [okB_iff]
  exact ⟨by omega, by omega, by omega, by omega, by simp⟩
theorem ok_red {p q : Int} (h1 : -1000000000 ≤ p) (h2 : p ≤ 1000000000) (h3 : 1 ≤ q) (h4 : q ≤ 1000000000) : okB (redP p q) (redQ p q) = true := by
  have a := tdiv_bd p (Int.gcd p q) 1000000000 h1 h2
  have b := tdiv_bd q (Int.gcd p q) 1000000000 (by omega) h4
  have hp := redQ_pos (p := p) (q := q) (by omega)
  have hg := red_gcd (p := p) (q := q) (by omega)
  rw [okB_iff]
  have e1 : redP p q = p.tdiv (Int.gcd p q) := by unfold redP; rw [if_neg (by omega)]
  have e2 : redQ p q = q.tdiv (Int.gcd p q) := by unfold redQ; rw [if_neg (by omega)]
  rw [e1, e2] at hg ⊢
  rw [e2] at hp
  exact ⟨hp, by omega, by omega, by omega, hg⟩
def whl (xs : List Int) : List (Int × Int) := xs.map fun x => (x, 1)
theorem whl_len (xs : List Int) : (whl xs).length = xs.length := by simp [whl]
theorem whl_all {xs : List Int} (h : ∀ x ∈ xs, -2000000 ≤ x ∧ x ≤ 2000000) : (whl xs).all (fun x => okB x.1 x.2) = true := by
  refine List.all_eq_true.2 fun y hy => ?_
  obtain ⟨x, hx, rfl⟩ := List.mem_map.1 hy
  obtain ⟨_, _⟩ := h x hx
  exact ok_whl (by omega) (by omega)
def sumZ (xs : List Int) : Int := xs.foldr (· + ·) 0
theorem sumZ_bd : ∀ xs : List Int, (∀ x ∈ xs, -2000000 ≤ x ∧ x ≤ 2000000) → -(2000000 * (xs.length : Int)) ≤ sumZ xs ∧ sumZ xs ≤ 2000000 * (xs.length : Int)
  | [], _ => by simp [sumZ]
  | x :: r, h => by
    obtain ⟨_, _⟩ := h x (List.mem_cons_self ..)
    have ih := sumZ_bd r fun y hy => h y (List.mem_cons_of_mem _ hy)
    have e : sumZ (x :: r) = x + sumZ r := rfl
    rw [e, List.length_cons]
    omega
theorem sm_whole (xs : List Int) : ∀ (P : Int), (∀ x ∈ xs, -2000000 ≤ x ∧ x ≤ 2000000) → -1000000000 + 2000000 * (xs.length : Int) ≤ P → P ≤ 1000000000 - 2000000 * (xs.length : Int) → sm (whl xs) P 1 = some (P + sumZ xs, 1) := by
  induction xs with
  | nil =>
    intro P _ _ _
    show some (P, 1) = some (P + 0, 1)
    rw [Int.add_zero]
  | cons x r ihr =>
    intro P h h1 h2
    obtain ⟨_, _⟩ := h x (List.mem_cons_self ..)
    rw [List.length_cons] at h1 h2
    have ih := ihr (P + x) (fun y hy => h y (List.mem_cons_of_mem _ hy)) (by omega) (by omega)
    have e : sumZ (x :: r) = x + sumZ r := rfl
    have e2 : whl (x :: r) = (x, 1) :: whl r := rfl
    obtain ⟨r1, r2⟩ := red_one (P + x)
    have e3 : P * 1 + x * 1 = (P + x) * 1 := by omega
    have hk : okB (P + x) 1 = true := ok_whl (by omega) (by omega)
    have e4 : sm ((x, 1) :: whl r) P 1 = if okB (redP (P * 1 + x * 1) (1 * 1)) (redQ (P * 1 + x * 1) (1 * 1)) then sm (whl r) (redP (P * 1 + x * 1) (1 * 1)) (redQ (P * 1 + x * 1) (1 * 1)) else none := rfl
    rw [e, e2, e4, e3, r1, r2, if_pos hk, ih, Int.add_assoc]
set_option maxRecDepth 20000 in
set_option maxHeartbeats 1000000 in
/-- impl.meanBy of whole numbers -/
theorem imeanI (A : Option Addr) (c : Nat) (xs : List Int) (w : World) (X : Hid (RdI w A xs)) (h1 : 1 ≤ xs.length) (hn : xs.length ≤ 64) (hb : ∀ x ∈ xs, -2000000 ≤ x ∧ x ≤ 2000000) :
    Calls Try.prog 106 #[.slice A xs.length c, .func (.func 107) #[] #[]] w fun e w' => e = .returned (fr (redP (sumZ xs) xs.length) (redQ (sumZ xs) xs.length)) ∧ Gr w w' := by
  have bd := sumZ_bd xs hb
  have hs := sm_whole xs 0 hb (by omega) (by omega)
  rw [Int.zero_add] at hs
  have HS : Hid (∀ (w : World) (g : Nat) (T : TypeId), Hid (w.heap[g]? = some (.cells (flatA (whl xs)) T)) → Calls Try.prog 162 #[sl g xs.length] w fun e w' => e = .returned (fr (sumZ xs) 1) ∧ Gr w w') := hid fun w g T X => by
    have h := isum_ok g (whl xs) (sumZ xs) 1 w T X (by rw [whl_len]; omega) (whl_all hb) hs
    rwa [whl_len] at h
  have hf := hid (fits_of (ok_count (n := (xs.length : Int)) (by omega) (by omega)))
  have HD : Hid (∀ w, Calls Try.prog 164 #[fr (sumZ xs) 1, fr (xs.length : Int) 1] w fun e w' => e = .returned (fr (redP (sumZ xs) xs.length) (redQ (sumZ xs) xs.length)) ∧ Gr w w') := hid fun w => by
    have h := mover_t (sumZ xs) 1 (xs.length : Int) 1 w (ok_whl (by omega) (by omega)) (ok_count (by omega) (by omega)) (by omega) (by rw [Int.mul_one, Int.one_mul]; exact ok_red (by omega) (by omega) (by omega) (by omega))
    rwa [Int.mul_one, Int.one_mul] at h
  have HV := hid fun (w' : World) (Z : Hid (RdI w' A xs)) => ivaluesI 107 #[] (fun x => (x, 1)) A c xs w' Z hn (fun _ _ => by kernel_rfl) fun s w2 hs _ => iwhole s w2 (by have := hb s hs; omega) (by have := hb s hs; omega)
  obtain ⟨m, hm⟩ : ∃ m, xs.length = m := ⟨_, rfl⟩
  rw [hm] at HS hf HD HV ⊢
  clear hs bd hm
  go_enter Try.func106, Try.ntmps106
  go_wp2_with fail
  refine (HV.out _ (hid (X.out.keep ((Gr.refl w).al _)))).mono ?_
  rintro e w1 ⟨g1_, rfl, xb1, _, hg1⟩
  obtain ⟨x1_0, hz1, g1⟩ := alloc1 hg1
  obtain ⟨_, _⟩ := cells2 x1_0
  have _ := fz x1_0
  have _ := ltb x1_0
  have _ := ltb xb1
  have X1_0 := hid x1_0; clear x1_0
  have Xb1 := hid xb1; clear xb1
  have G1 := hid (g1)
  clear hg1 g1
  go_wp2_with fail
  refine (HS.out _ _ _ (hid Xb1.out)).mono ?_
  rintro e w2 ⟨rfl, hg2⟩
  have x2_1 := hg2.keep X1_0.out
  have x2_2 := hg2.keep Xb1.out
  obtain ⟨_, _⟩ := cells2 x2_1
  have _ := fz x2_1
  have _ := ltb x2_1
  have _ := ltb x2_2
  have X2_1 := hid x2_1; clear x2_1
  have X2_2 := hid x2_2; clear x2_2
  have G2 := hid (G1.out.trans hg2)
  clear hg2
  go_wp2_with fail
  refine (fit_ok _ _ _ hf.out.1 hf.out.2).mono ?_
  rintro e w3 ⟨rfl, hg3⟩
  have x3_1 := hg3.keep X2_1.out
  have x3_2 := hg3.keep X2_2.out
  obtain ⟨_, _⟩ := cells2 x3_1
  have _ := fz x3_1
  have _ := ltb x3_1
  have _ := ltb x3_2
  have X3_1 := hid x3_1; clear x3_1
  have X3_2 := hid x3_2; clear x3_2
  have G3 := hid (G2.out.trans hg3)
  clear hg3
  go_wp2_with fail
  refine (HD.out _).mono ?_
  rintro e w4 ⟨rfl, hg4⟩
  have x4_1 := hg4.keep X3_1.out
  have x4_2 := hg4.keep X3_2.out
  obtain ⟨_, _⟩ := cells2 x4_1
  have _ := fz x4_1
  have _ := ltb x4_1
  have _ := ltb x4_2
  have X4_1 := hid x4_1; clear x4_1
  have X4_2 := hid x4_2; clear x4_2
  have G4 := hid (G3.out.trans hg4)
  clear hg4
  go_wp2
  refine bodyPost_ret (v := fr (redP (sumZ xs) m) (redQ (sumZ xs) m)) (by simp [results, Try.results106, go_sem, *]) rfl ⟨rfl, ?_⟩
  exact ((G4.out).setCell (by simp <;> omega) _).setCell (by simp <;> omega) _
end Go.Proofs.Ytfcoigdmnmgohaa
