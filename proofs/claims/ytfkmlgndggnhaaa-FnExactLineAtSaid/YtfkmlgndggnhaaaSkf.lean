/- WALKS: ValidScale, of the program and of the reference. -/
import Derived.Test.YtfkmlgndggnhaaaSke
namespace Go.Proofs.Ytfkmlgndggnhaaa
open Go.RowKit Go.Sort

theorem smark_no (a b : Int) (A : Option Addr) (c k j : Nat) (xs : List (Int × Int)) (p q : Int) (w : World) (X1 : Hid (w.heap[j]? = some (.cells #[.int .i64 a, .int .i64 b, .slice A xs.length c] 32)))
    (X : Hid (RdF w A xs)) (hk : xs[k]? = some (p, q)) (hn : xs.length ≤ 1048576) (h1 : okB a b = true) (ht : okB k 1 = true) (h2 : okB p q = true) (g : mkB a b k p q = false) :
    Calls Try.prog 71 #[.pointer (some ⟨j, 0, none⟩), .int .i64 k] w fun e w' => e = .returned (.tuple #[fr 0 0, .int .i64 3]) ∧ Gr w w' := by
  unfold mkB at g
  cases g1 : n1B a b k with
  | false => exact smark_f1 a b A c k j xs w X1 h1 ht g1
  | true =>
    rw [g1] at g
    exact smark_f2 a b A c k j xs p q w X1 X hk hn h1 ht h2 g1 (by simpa using g)
theorem smark_yes (a b : Int) (A : Option Addr) (c k j : Nat) (xs : List (Int × Int)) (p q : Int) (w : World) (X1 : Hid (w.heap[j]? = some (.cells #[.int .i64 a, .int .i64 b, .slice A xs.length c] 32)))
    (X : Hid (RdF w A xs)) (hk : xs[k]? = some (p, q)) (hn : xs.length ≤ 1048576) (h1 : okB a b = true) (ht : okB k 1 = true) (h2 : okB p q = true) (g : mkB a b k p q = true) :
    Calls Try.prog 71 #[.pointer (some ⟨j, 0, none⟩), .int .i64 k] w fun e w' => e = .returned (.tuple #[fr (mkP a b k p q) (mkQ a b k p q), .int .i64 0]) ∧ Gr w w' := by
  unfold mkB at g
  simp only [Bool.and_eq_true] at g
  exact smark_t a b A c k j xs p q w X1 X hk hn h1 ht h2 g.1 g.2
def absI (p : Int) : Int := (p.natAbs : Int)
def qtB (a b p q : Int) : Bool := decide (4 * absI p * b ≤ a * q)
set_option maxRecDepth 20000 in
set_option maxHeartbeats 400000 in
theorem isize (p q : Int) (w : World) (h1 : -4000000000000000000 ≤ p) (h2 : p ≤ 4000000000000000000) :
    Calls Try.prog 107 #[fr p q] w fun e w' => e = .returned (fr (absI p) q) ∧ Gr w w' := by
  unfold absI
  by_cases h : p < 0
  · have e : ((p.natAbs : Nat) : Int) = -p := by omega
    rw [e]
    go_enter Try.func107, Try.ntmps107
    go_wp2_with fail
    refine bodyPost_ret (v := fr (-p) q) (by simp [results, Try.results107, go_sem]) rfl ⟨rfl, (Gr.alloc _ _).al _⟩
  · have e : ((p.natAbs : Nat) : Int) = p := by omega
    rw [e]
    go_enter Try.func107, Try.ntmps107
    go_wp2_with fail
    refine bodyPost_ret (v := fr p q) (by simp [results, Try.results107, go_sem]) rfl ⟨rfl, (Gr.alloc _ _).al _⟩
theorem quarter_bd {a b p q : Int} (h1 : okB a b = true) (h2 : okB p q = true) : 0 ≤ absI p ∧ absI p ≤ 1000000000 ∧ 0 ≤ 4 * absI p * b ∧ 4 * absI p * b ≤ 4000000000000000000 ∧ -1000000000000000000 ≤ a * q ∧ a * q ≤ 1000000000000000000 := by
  obtain ⟨b1, b2, b3, b4⟩ := okB_bd h1
  obtain ⟨d1, d2, d3, d4⟩ := okB_bd h2
  have e1 : 0 ≤ absI p ∧ absI p ≤ 1000000000 := by unfold absI; omega
  have m1 := mul_bd (x := absI p) (y := b) (by omega) (by omega) (by omega) (by omega)
  have m2 := mul_bd (x := a) (y := q) (by omega) (by omega) (by omega) (by omega)
  have e2 : 4 * absI p * b = 4 * (absI p * b) := Int.mul_assoc _ _ _
  have e3 : 0 ≤ absI p * b := Int.mul_nonneg (by omega) (by omega)
  refine ⟨e1.1, e1.2, by omega, by omega, by omega, by omega⟩
set_option maxRecDepth 20000 in
set_option maxHeartbeats 1000000 in
theorem iquarter (a b p q : Int) (w : World) (h1 : okB a b = true) (h2 : okB p q = true) :
    Calls Try.prog 54 #[fr p q, fr a b] w fun e w' => e = .returned (.bool (qtB a b p q)) ∧ Gr w w' := by
  obtain ⟨q0, q1, q2, q3, q4, q5⟩ := quarter_bd h1 h2
  obtain ⟨_, _, d3, d4⟩ := okB_bd h2
  have HS := hid fun w => isize p q w (by omega) (by omega)
  have hfd : ∀ (x y : Int) (w : World), (Instr.field 29 (fr x y) 0).run Try.prog w = .ok (.int .i64 x) w := fun _ _ _ => by kernel_rfl
  unfold qtB
  clear d3 d4 h1 h2
  go_enter Try.func54, Try.ntmps54
  go_wp2_with fail
  refine wp_reg0 13 (by kernel_rfl) (by kernel_rfl) ?_
  apply Exists.intro
  refine ⟨fun wb hb => ?_, ?_⟩
  · obtain ⟨y0, y1, _, _⟩ := alloc2 (Gr.refl _)
    obtain ⟨_, _⟩ := hb.at2 y0
    obtain ⟨_, _⟩ := hb.at2 y1
    clear y0 y1
    simp only [headOps, List.contains, List.elem, reduceIte, Bool.false_eq_true]
    repeat (first | go_big_quiet_step (first | (go_at_call 107; exact Calls.of_gr (HS.out _))) | quiet_step (fail))
    exact wpQuiet_nil rfl
  intro w1 hg1
  obtain ⟨x1_0, x1_1, hz1, g1⟩ := alloc2 hg1
  obtain ⟨_, _⟩ := cells2 x1_0
  have _ := fz x1_0
  have _ := ltb x1_0
  obtain ⟨_, _⟩ := cells2 x1_1
  have _ := fz x1_1
  have _ := ltb x1_1
  have X1_0 := hid x1_0; clear x1_0
  have X1_1 := hid x1_1; clear x1_1
  have G1 := hid (g1)
  clear hg1 g1
  go_wp2
  go_ret
  exact ⟨rfl, G1.out⟩
set_option maxHeartbeats 400000 in
theorem iMkCount (n : Int) (w : World) : Calls Try.prog 53 #[.int .i64 n] w fun e w' => e = .returned (.bool (inB n 2 60)) ∧ w = w' := by
  unfold inB
  by_cases h : 2 ≤ n
  · have h1 : decide (2 ≤ n) = true := by simpa using h
    rw [h1]
    go_enter Try.func53, Try.ntmps53
    go_wp2
    go_ret
    exact ⟨rfl, rfl⟩
  · have h1 : decide (2 ≤ n) = false := by simpa using h
    rw [h1]
    go_enter Try.func53, Try.ntmps53
    go_wp2
    go_ret
    exact ⟨rfl, rfl⟩
/-- Is an error valid, and can its mark be told? -/
def scE (a b : Int) (k : Nat) (p q : Int) : Bool := okB p q && (qtB a b p q && mkB a b k p q)
def allE (a b : Int) : Nat → List (Int × Int) → Bool
  | _, [] => true
  | k, x :: r => scE a b k x.1 x.2 && allE a b (k + 1) r
theorem allE_iff (a b : Int) : ∀ (xs : List (Int × Int)) (j : Nat), allE a b j xs = true ↔ ∀ (k : Nat) (p q : Int), xs[k]? = some (p, q) → scE a b (j + k) p q = true
  | [], j => by simp [allE]
  | x :: r, j => by
    rw [allE, Bool.and_eq_true, allE_iff a b r (j + 1)]
    constructor
    · rintro ⟨h1, h2⟩ k p q hk
      match k with
      | 0 => simp at hk; subst hk; simpa using h1
      | k + 1 => have := h2 k p q (by simpa using hk); rwa [show j + 1 + k = j + (k + 1) by omega] at this
    · intro h
      exact ⟨by have := h 0 x.1 x.2 (by simp); simpa using this, fun k p q hk => by have := h (k + 1) p q (by simpa using hk); rwa [show j + (k + 1) = j + 1 + k by omega] at this⟩
def sclB (a b : Int) (xs : List (Int × Int)) : Bool := withinB a b 1000 && (inB (xs.length : Int) 2 60 && allE a b 0 xs)
theorem allE_yes {a b : Int} {xs : List (Int × Int)} (h : ∀ (i : Nat) (p q : Int), i < xs.length → xs[i]? = some (p, q) → scE a b i p q = true) : allE a b 0 xs = true := by
  rw [allE_iff]
  intro k p q hk
  rw [Nat.zero_add]
  exact h k p q (List.getElem?_eq_some_iff.1 hk).1 hk
theorem allE_no {a b : Int} {xs : List (Int × Int)} {k : Nat} {p q : Int} (hk : xs[k]? = some (p, q)) (h : scE a b k p q = false) : allE a b 0 xs = false := by
  cases ha : allE a b 0 xs with
  | false => rfl
  | true =>
    rw [allE_iff] at ha
    have := ha k p q hk
    rw [Nat.zero_add, h] at this
    cases this
theorem ok1000 : okB 1000 1 = true := by decide
set_option maxRecDepth 20000 in
set_option maxHeartbeats 1000000 in
/-- spec.l02Ok -/
theorem sScOk (a b : Int) (A : Option Addr) (c j : Nat) (xs : List (Int × Int)) (w : World) (X1 : Hid (w.heap[j]? = some (.cells #[.int .i64 a, .int .i64 b, .slice A xs.length c] 32))) (X : Hid (RdF w A xs)) (hn : xs.length ≤ 1048576) :
    Calls Try.prog 49 #[.pointer (some ⟨j, 0, none⟩)] w fun e w' => e = .returned (.bool (sclB a b xs)) ∧ Gr w w' := by
  unfold sclB
  cases h1 : withinB a b 1000 with
  | false =>
    have HW := hid fun w => (swithin a b 1000 w ok1000)
    rw [h1] at HW
    go_enter Try.func49, Try.ntmps49
    obtain ⟨_, _, _⟩ := cells3 X1.out
    have _ := fz X1.out
    have _ := ltb X1.out
    go_wp2_with fail
    refine (HW.out _).mono ?_
    rintro e w1 ⟨rfl, hg1⟩
    have x1_1 := hg1.keep X1.out
    obtain ⟨_, _, _⟩ := cells3 x1_1
    have _ := fz x1_1
    have _ := ltb x1_1
    have X1_1 := hid x1_1; clear x1_1
    have G1 := hid (hg1)
    clear hg1
    go_wp2
    go_ret
    exact ⟨rfl, G1.out⟩
  | true =>
    have HW := hid fun w => (swithin a b 1000 w ok1000)
    rw [h1] at HW
    have ho := hid (within_ok h1)
    clear h1
    cases h2 : inB (xs.length : Int) 2 60 with
    | false =>
      have h2 := hid h2
      go_enter Try.func49, Try.ntmps49
      obtain ⟨_, _, _⟩ := cells3 X1.out
      have _ := fz X1.out
      have _ := ltb X1.out
      go_wp2_with fail
      refine (HW.out _).mono ?_
      rintro e w1 ⟨rfl, hg1⟩
      have x1_1 := hg1.keep X1.out
      obtain ⟨_, _, _⟩ := cells3 x1_1
      have _ := fz x1_1
      have _ := ltb x1_1
      have X1_1 := hid x1_1; clear x1_1
      have G1 := hid (hg1)
      clear hg1
      go_wp2_with fail
      refine (in_f _ _ _ _ h2.out).mono ?_
      rintro e w2 ⟨rfl, hg2⟩
      have x2_1 := hg2.keep X1_1.out
      obtain ⟨_, _, _⟩ := cells3 x2_1
      have _ := fz x2_1
      have _ := ltb x2_1
      have X2_1 := hid x2_1; clear x2_1
      have G2 := hid (G1.out.trans hg2)
      clear hg2
      go_wp2
      go_ret
      exact ⟨rfl, G2.out⟩
    | true =>
      obtain ⟨l1, l2⟩ := in_bd h2
      have h2 := hid h2
      obtain ⟨r, hr⟩ : ∃ r, allE a b 0 xs = r := ⟨_, rfl⟩
      rw [hr]
      have HR := hid hr
      clear hr
      go_enter Try.func49, Try.ntmps49
      obtain ⟨_, _, _⟩ := cells3 X1.out
      have _ := fz X1.out
      have _ := ltb X1.out
      go_wp2_with fail
      refine (HW.out _).mono ?_
      rintro e w1 ⟨rfl, hg1⟩
      have x1_1 := hg1.keep X1.out
      obtain ⟨_, _, _⟩ := cells3 x1_1
      have _ := fz x1_1
      have _ := ltb x1_1
      have X1_1 := hid x1_1; clear x1_1
      have G1 := hid (hg1)
      clear hg1
      go_wp2_with fail
      refine (in_t _ _ _ _ h2.out).mono ?_
      rintro e w2 ⟨rfl, hg2⟩
      have x2_1 := hg2.keep X1_1.out
      obtain ⟨_, _, _⟩ := cells3 x2_1
      have _ := fz x2_1
      have _ := ltb x2_1
      have X2_1 := hid x2_1; clear x2_1
      have G2 := hid (G1.out.trans hg2)
      clear hg2
      go_wp2_with fail
      go_loopw [3] (fun u wr => ∃ (k : Nat), u = .int .i64 (k : Int) ∧ k ≤ xs.length ∧ Gr w wr ∧ ∀ (i : Nat) (p q : Int), i < k → xs[i]? = some (p, q) → scE a b i p q = true) (fun u _ => xs.length - (intOf u).toNat)
      case atStart => exact ⟨0, rfl, by omega, G2.out, fun i p q h => by omega⟩
      case round =>
        obtain ⟨k, rfl, hk, g0, hall⟩ := hrel
        have Y1 := hid (g0.keep X1.out); have HX := hid (X.out.keep g0)
        have GW := hid g0; have HALL := hid hall
        clear g0 hall
        by_cases hlt : k < xs.length
        · obtain ⟨⟨p, q⟩, hpq⟩ : ∃ pq, xs[k]? = some pq := ⟨xs[k], List.getElem?_eq_getElem _⟩
          obtain ⟨ad, rfl, c1, c2⟩ := HX.out k p q hpq
          have HPQ := hid hpq; clear hpq
          cases hx : okB p q with
          | false =>
            have e : allE a b 0 xs = false := allE_no HPQ.out (by unfold scE; rw [hx]; rfl)
            have HX2 := hid hx
            clear hx
            obtain ⟨_, _, _⟩ := cells3 Y1.out
            have _ := fz Y1.out
            have _ := ltb Y1.out
            go_wp2_with fail
            refine wp_reg0 23 (by kernel_rfl) (by kernel_rfl) ?_
            apply Exists.intro
            refine ⟨fun wb hb => ?_, ?_⟩
            · obtain ⟨_, _, _⟩ := hb.at3 (((Gr.refl _).al _).keep Y1.out)
              obtain ⟨_, _⟩ := hb.at2 (alloc1 (Gr.refl _)).1
              simp only [headOps, List.contains, List.elem, reduceIte, Bool.false_eq_true]
              repeat (first | go_big_quiet_step (first | (go_at_call 62; exact Calls.of_gr (sok_f _ _ _ HX2.out))) | quiet_step (fail))
              exact wpQuiet_nil rfl
            intro w1 hg1
            obtain ⟨x1_0, hz1, g1⟩ := alloc1 hg1
            have x1_1 := g1.keep Y1.out
            obtain ⟨_, _, _⟩ := cells3 x1_1
            have _ := fz x1_1
            have _ := ltb x1_1
            obtain ⟨_, _⟩ := cells2 x1_0
            have _ := fz x1_0
            have _ := ltb x1_0
            have X1_1 := hid x1_1; clear x1_1
            have X1_0 := hid x1_0; clear x1_0
            have G1 := hid (GW.out.trans g1)
            clear hg1 g1
            go_wp2
            go_ret
            exact ⟨ret_bool (by rw [← HR.out, e]; simp), G1.out⟩
          | true =>
            obtain ⟨q0, q1, q2, q3, q4, q5⟩ := quarter_bd ho.out hx
            obtain ⟨_, _, d3, d4⟩ := okB_bd hx
            have HA := hid fun w => (abs_any p w (by omega) (by omega))
            have hkk : (k : Int) ≤ 60 := by omega
            have ht := hid (ok_whole (t := k) (by omega) (by omega))
            have HX2 := hid hx
            clear hx d3 d4
            cases hq : qtB a b p q with
            | false =>
              have e : allE a b 0 xs = false := allE_no HPQ.out (by unfold scE; rw [HX2.out, hq]; rfl)
              have hq1 : decide (a * q < 4 * absI p * b) = true := by unfold qtB at hq; simp at hq ⊢; exact hq
              unfold absI at *
              clear hq
              obtain ⟨_, _, _⟩ := cells3 Y1.out
              have _ := fz Y1.out
              have _ := ltb Y1.out
              go_wp2_with fail
              refine wp_reg0 23 (by kernel_rfl) (by kernel_rfl) ?_
              apply Exists.intro
              refine ⟨fun wb hb => ?_, ?_⟩
              · obtain ⟨_, _, _⟩ := hb.at3 (((Gr.refl _).al _).keep Y1.out)
                obtain ⟨_, _⟩ := hb.at2 (alloc1 (Gr.refl _)).1
                simp only [headOps, List.contains, List.elem, reduceIte, Bool.false_eq_true]
                repeat (first | go_big_quiet_step (first | (go_at_call 62; exact Calls.of_gr (sok_t _ _ _ HX2.out)) | (go_at_call 105; exact Calls.of_same (HA.out _))) | quiet_step (fail))
                exact wpQuiet_nil rfl
              intro w1 hg1
              obtain ⟨x1_0, hz1, g1⟩ := alloc1 hg1
              have x1_1 := g1.keep Y1.out
              obtain ⟨_, _, _⟩ := cells3 x1_1
              have _ := fz x1_1
              have _ := ltb x1_1
              obtain ⟨_, _⟩ := cells2 x1_0
              have _ := fz x1_0
              have _ := ltb x1_0
              have X1_1 := hid x1_1; clear x1_1
              have X1_0 := hid x1_0; clear x1_0
              have G1 := hid (GW.out.trans g1)
              clear hg1 g1
              go_wp2
              go_ret
              exact ⟨ret_bool (by rw [← HR.out, e]; simp), G1.out⟩
            | true =>
              have hq1 : decide (a * q < 4 * absI p * b) = false := by unfold qtB at hq; simp at hq ⊢; exact hq
              have HQ := hid hq
              clear hq
              cases hm : mkB a b k p q with
              | false =>
                have e : allE a b 0 xs = false := allE_no HPQ.out (by unfold scE; rw [HX2.out, HQ.out, hm]; rfl)
                have HM := hid hm; clear hm
                have HMK := hid fun (w' : World) (Z1 : Hid (w'.heap[j]? = some (.cells #[.int .i64 a, .int .i64 b, .slice (some ad) xs.length c] 32))) (Z : Hid (RdF w' (some ad) xs)) => smark_no a b (some ad) c k j xs p q w' Z1 Z HPQ.out (by omega) ho.out ht.out HX2.out HM.out
                unfold absI at *
                obtain ⟨_, _, _⟩ := cells3 Y1.out
                have _ := fz Y1.out
                have _ := ltb Y1.out
                go_wp2_with fail
                refine wp_reg0 23 (by kernel_rfl) (by kernel_rfl) ?_
                apply Exists.intro
                refine ⟨fun wb hb => ?_, ?_⟩
                · obtain ⟨_, _, _⟩ := hb.at3 (((Gr.refl _).al _).keep Y1.out)
                  obtain ⟨_, _⟩ := hb.at2 (alloc1 (Gr.refl _)).1
                  simp only [headOps, List.contains, List.elem, reduceIte, Bool.false_eq_true]
                  repeat (first | go_big_quiet_step (first | (go_at_call 62; exact Calls.of_gr (sok_t _ _ _ HX2.out)) | (go_at_call 105; exact Calls.of_same (HA.out _))) | quiet_step (fail))
                  exact wpQuiet_nil rfl
                intro w1 hg1
                obtain ⟨x1_0, hz1, g1⟩ := alloc1 hg1
                have x1_1 := g1.keep Y1.out
                obtain ⟨_, _, _⟩ := cells3 x1_1
                have _ := fz x1_1
                have _ := ltb x1_1
                obtain ⟨_, _⟩ := cells2 x1_0
                have _ := fz x1_0
                have _ := ltb x1_0
                have X1_1 := hid x1_1; clear x1_1
                have X1_0 := hid x1_0; clear x1_0
                have G1 := hid (GW.out.trans g1)
                clear hg1 g1
                go_wp2_with fail
                refine (HMK.out _ (hid X1_1.out) (hid (X.out.keep G1.out))).mono ?_
                rintro e w2 ⟨rfl, hg2⟩
                have x2_1 := hg2.keep X1_1.out
                have x2_2 := hg2.keep X1_0.out
                obtain ⟨_, _, _⟩ := cells3 x2_1
                have _ := fz x2_1
                have _ := ltb x2_1
                obtain ⟨_, _⟩ := cells2 x2_2
                have _ := fz x2_2
                have _ := ltb x2_2
                have X2_1 := hid x2_1; clear x2_1
                have X2_2 := hid x2_2; clear x2_2
                have G2 := hid (G1.out.trans hg2)
                clear hg2
                go_wp2
                go_ret
                exact ⟨ret_bool (by rw [← HR.out, e]; simp), (G2.out).al _⟩
              | true =>
                have HM := hid hm; clear hm
                have HMK := hid fun (w' : World) (Z1 : Hid (w'.heap[j]? = some (.cells #[.int .i64 a, .int .i64 b, .slice (some ad) xs.length c] 32))) (Z : Hid (RdF w' (some ad) xs)) => smark_yes a b (some ad) c k j xs p q w' Z1 Z HPQ.out (by omega) ho.out ht.out HX2.out HM.out
                have hqq : qtB a b p q = true := HQ.out
                have HE : Hid (scE a b k p q = true) := hid (by unfold scE; rw [HX2.out, hqq, HM.out]; rfl)
                clear hqq
                unfold absI at *
                obtain ⟨_, _, _⟩ := cells3 Y1.out
                have _ := fz Y1.out
                have _ := ltb Y1.out
                go_wp2_with fail
                refine wp_reg0 23 (by kernel_rfl) (by kernel_rfl) ?_
                apply Exists.intro
                refine ⟨fun wb hb => ?_, ?_⟩
                · obtain ⟨_, _, _⟩ := hb.at3 (((Gr.refl _).al _).keep Y1.out)
                  obtain ⟨_, _⟩ := hb.at2 (alloc1 (Gr.refl _)).1
                  simp only [headOps, List.contains, List.elem, reduceIte, Bool.false_eq_true]
                  repeat (first | go_big_quiet_step (first | (go_at_call 62; exact Calls.of_gr (sok_t _ _ _ HX2.out)) | (go_at_call 105; exact Calls.of_same (HA.out _))) | quiet_step (fail))
                  exact wpQuiet_nil rfl
                intro w1 hg1
                obtain ⟨x1_0, hz1, g1⟩ := alloc1 hg1
                have x1_1 := g1.keep Y1.out
                obtain ⟨_, _, _⟩ := cells3 x1_1
                have _ := fz x1_1
                have _ := ltb x1_1
                obtain ⟨_, _⟩ := cells2 x1_0
                have _ := fz x1_0
                have _ := ltb x1_0
                have X1_1 := hid x1_1; clear x1_1
                have X1_0 := hid x1_0; clear x1_0
                have G1 := hid (GW.out.trans g1)
                clear hg1 g1
                go_wp2_with fail
                refine (HMK.out _ (hid X1_1.out) (hid (X.out.keep G1.out))).mono ?_
                rintro e w2 ⟨rfl, hg2⟩
                have x2_1 := hg2.keep X1_1.out
                have x2_2 := hg2.keep X1_0.out
                obtain ⟨_, _, _⟩ := cells3 x2_1
                have _ := fz x2_1
                have _ := ltb x2_1
                obtain ⟨_, _⟩ := cells2 x2_2
                have _ := fz x2_2
                have _ := ltb x2_2
                have X2_1 := hid x2_1; clear x2_1
                have X2_2 := hid x2_2; clear x2_2
                have G2 := hid (G1.out.trans hg2)
                clear hg2
                go_wp2_with fail
                refine ⟨⟨k + 1, by simp, by omega, G2.out.al _, fun i p' q' hi hp' => ?_⟩, by simp [intOf]; omega⟩
                by_cases he : i = k
                · subst he
                  have := HPQ.out
                  rw [hp'] at this
                  cases this
                  exact HE.out
                · exact HALL.out i p' q' (by omega) hp'
        · have hke : k = xs.length := by omega
          have e : allE a b 0 xs = true := allE_yes (fun i p q hi hp => HALL.out i p q (by omega) hp)
          obtain ⟨_, _, _⟩ := cells3 Y1.out
          have _ := fz Y1.out
          have _ := ltb Y1.out
          go_wp2
          go_ret
          exact ⟨ret_bool (by rw [← HR.out, e]; simp), GW.out⟩
end Go.Proofs.Ytfkmlgndggnhaaa
