/- WALKS: ValidScale, of the program and of the reference. -/
import Derived.Test.YtgfopfomhgfcaaaGreatDoorSka
import Derived.Test.YtgfopfomhgfcaaaGreatDoorW
import Derived.Test.YtgfopfomhgfcaaaGreatDoorH
import Derived.Test.YtgfopfomhgfcaaaGreatDoorFu
import Derived.Test.YtgfopfomhgfcaaaGreatDoorC0
namespace Go.Proofs.YtgfopfomhgfcaaaGreatDoor
open Go.RowKit Go.Sort

theorem smark_no (a b : Int) (A : Option Addr) (c k j : Nat) (xs : List (Int × Int)) (p q : Int) (w : World) (X1 : Hid (w.heap[j]? = some (.cells #[.int .i64 a, .int .i64 b, .slice A xs.length c] 37)))
    (X : Hid (RdF w A xs)) (hk : xs[k]? = some (p, q)) (hn : xs.length ≤ 1048576) (h1 : okB a b = true) (ht : okB k 1 = true) (h2 : okB p q = true) (g : mkB a b k p q = false) :
    Calls Tryz.prog 91 #[.pointer (some ⟨j, 0, none⟩), .int .i64 k] w fun e w' => e = .returned (.tuple #[fr 0 0, .int .i64 3]) ∧ Gr w w' := by
  unfold mkB at g
  cases g1 : n1B a b k with
  | false => exact smark_f1 a b A c k j xs w X1 h1 ht g1
  | true =>
    rw [g1] at g
    exact smark_f2 a b A c k j xs p q w X1 X hk hn h1 ht h2 g1 (by simpa using g)
theorem smark_yes (a b : Int) (A : Option Addr) (c k j : Nat) (xs : List (Int × Int)) (p q : Int) (w : World) (X1 : Hid (w.heap[j]? = some (.cells #[.int .i64 a, .int .i64 b, .slice A xs.length c] 37)))
    (X : Hid (RdF w A xs)) (hk : xs[k]? = some (p, q)) (hn : xs.length ≤ 1048576) (h1 : okB a b = true) (ht : okB k 1 = true) (h2 : okB p q = true) (g : mkB a b k p q = true) :
    Calls Tryz.prog 91 #[.pointer (some ⟨j, 0, none⟩), .int .i64 k] w fun e w' => e = .returned (.tuple #[fr (mkP a b k p q) (mkQ a b k p q), .int .i64 0]) ∧ Gr w w' := by
  unfold mkB at g
  simp only [Bool.and_eq_true] at g
  exact smark_t a b A c k j xs p q w X1 X hk hn h1 ht h2 g.1 g.2
def absI (p : Int) : Int := (p.natAbs : Int)
def qtB (a b p q : Int) : Bool := decide (4 * absI p * b ≤ a * q)
set_option maxRecDepth 20000 in
set_option maxHeartbeats 400000 in
theorem isize (p q : Int) (w : World) (h1 : -4000000000000000000 ≤ p) (h2 : p ≤ 4000000000000000000) :
    Calls Tryz.prog 143 #[fr p q] w fun e w' => e = .returned (fr (absI p) q) ∧ Gr w w' := by
  unfold absI
  by_cases h : p < 0
  · have e : ((p.natAbs : Nat) : Int) = -p := by omega
    rw [e]
    go_enter Tryz.func143, Tryz.ntmps143
    go_wp2_with fail
    refine bodyPost_ret (v := fr (-p) q) (by simp [results, Tryz.results143, go_sem]) rfl ⟨rfl, (Gr.alloc _ _).al _⟩
  · have e : ((p.natAbs : Nat) : Int) = p := by omega
    rw [e]
    go_enter Tryz.func143, Tryz.ntmps143
    go_wp2_with fail
    refine bodyPost_ret (v := fr p q) (by simp [results, Tryz.results143, go_sem]) rfl ⟨rfl, (Gr.alloc _ _).al _⟩
theorem quarter_bd {a b p q : Int} (h1 : okB a b = true) (h2 : okB p q = true) : 0 ≤ absI p ∧ absI p ≤ 1000000000 ∧ 0 ≤ 4 * absI p * b ∧ 4 * absI p * b ≤ 4000000000000000000 ∧ -1000000000000000000 ≤ a * q ∧ a * q ≤ 1000000000000000000 := by
  obtain ⟨b1, b2, b3, b4⟩ := okB_bd h1
  obtain ⟨d1, d2, d3, d4⟩ := okB_bd h2
  have e1 : 0 ≤ absI p ∧ absI p ≤ 1000000000 := by unfold absI; omega
  have m1 := mul_bd (x := absI p) (y := b) (by omega) (by omega) (by omega) (by omega)
  have m2 := mul_bd (x := a) (y := q) (by omega) (by omega) (by omega) (by omega)
  have e2 : 4 * absI p * b = 4 * (absI p * b) := Int.mul_assoc _ _ _
  have e3 : 0 ≤ absI p * b := Int.mul_nonneg (by omega) (by omega)
  refine ⟨e1.1, e1.2, by omega, by omega, by omega, by omega⟩
set_option maxRecDepth 20000 in
set_option maxHeartbeats 1000000 in
theorem iquarter (a b p q : Int) (w : World) (h1 : okB a b = true) (h2 : okB p q = true) :
    Calls Tryz.prog 111 #[fr p q, fr a b] w fun e w' => e = .returned (.bool (qtB a b p q)) ∧ Gr w w' := by
  obtain ⟨q0, q1, q2, q3, q4, q5⟩ := quarter_bd h1 h2
  obtain ⟨_, _, d3, d4⟩ := okB_bd h2
  have HS := hid fun w => isize p q w (by omega) (by omega)
  have hfd : ∀ (x y : Int) (w : World), (Instr.field 34 (fr x y) 0).run Tryz.prog w = .ok (.int .i64 x) w := fun _ _ _ => by kernel_rfl
  unfold qtB
  clear d3 d4 h1 h2
  go_enter Tryz.func111, Tryz.ntmps111
  go_wp2_with fail
  refine wp_reg0 13 (by kernel_rfl) (by kernel_rfl) ?_
  apply Exists.intro
  refine ⟨fun wb hb => ?_, ?_⟩
  · obtain ⟨y0, y1, _, _⟩ := alloc2 (Gr.refl _)
    obtain ⟨_, _⟩ := hb.at2 y0
    obtain ⟨_, _⟩ := hb.at2 y1
    clear y0 y1
    simp only [headOps, List.contains, List.elem, reduceIte, Bool.false_eq_true]
    repeat (first | go_big_quiet_step (first | (go_at_call 143; exact Calls.of_gr (HS.out _))) | quiet_step (fail))
    exact wpQuiet_nil rfl
  intro w1 hg1
  obtain ⟨x1_0, x1_1, hz1, g1⟩ := alloc2 hg1
  obtain ⟨_, _⟩ := cells2 x1_0
  have _ := fz x1_0
  have _ := ltb x1_0
  obtain ⟨_, _⟩ := cells2 x1_1
  have _ := fz x1_1
  have _ := ltb x1_1
  have X1_0 := hid x1_0; clear x1_0
  have X1_1 := hid x1_1; clear x1_1
  have G1 := hid (g1)
  clear hg1 g1
  go_wp2
  go_ret
  exact ⟨rfl, G1.out⟩
set_option maxHeartbeats 400000 in
theorem iMkCount (n : Int) (w : World) : Calls Tryz.prog 110 #[.int .i64 n] w fun e w' => e = .returned (.bool (inB n 2 60)) ∧ w = w' := by
  unfold inB
  by_cases h : 2 ≤ n
  · have h1 : decide (2 ≤ n) = true := by simpa using h
    rw [h1]
    go_enter Tryz.func110, Tryz.ntmps110
    go_wp2
    go_ret
    exact ⟨rfl, rfl⟩
  · have h1 : decide (2 ≤ n) = false := by simpa using h
    rw [h1]
    go_enter Tryz.func110, Tryz.ntmps110
    go_wp2
    go_ret
    exact ⟨rfl, rfl⟩
/-- Is an error valid, and can its mark be told? -/
def scE (a b : Int) (k : Nat) (p q : Int) : Bool := okB p q && (qtB a b p q && mkB a b k p q)
def allE (a b : Int) : Nat → List (Int × Int) → Bool
  | _, [] => true
  | k, x :: r => scE a b k x.1 x.2 && allE a b (k + 1) r
theorem allE_iff (a b : Int) : ∀ (xs : List (Int × Int)) (j : Nat), allE a b j xs = true ↔ ∀ (k : Nat) (p q : Int), xs[k]? = some (p, q) → scE a b (j + k) p q = true
  | [], j => by simp [allE]
  | x :: r, j => by
    rw [allE, Bool.and_eq_true, allE_iff a b r (j + 1)]
    constructor
    · rintro ⟨h1, h2⟩ k p q hk
      match k with
      | 0 => simp at hk; subst hk; simpa using h1
      | k + 1 => have := h2 k p q (by simpa using hk); rwa [show j + 1 + k = j + (k + 1) by omega] at this
    · intro h
      exact ⟨by have := h 0 x.1 x.2 (by simp); simpa using this, fun k p q hk => by have := h (k + 1) p q (by simpa using hk); rwa [show j + (k + 1) = j + 1 + k by omega] at this⟩
def sclB (a b : Int) (xs : List (Int × Int)) : Bool := withinB a b 1000 && (inB (xs.length : Int) 2 60 && allE a b 0 xs)
theorem allE_yes {a b : Int} {xs : List (Int × Int)} (h : ∀ (i : Nat) (p q : Int), i < xs.length → xs[i]? = some (p, q) → scE a b i p q = true) : allE a b 0 xs = true := by
  rw [allE_iff]
  intro k p q hk
  rw [Nat.zero_add]
  exact h k p q (List.getElem?_eq_some_iff.1 hk).1 hk
theorem allE_no {a b : Int} {xs : List (Int × Int)} {k : Nat} {p q : Int} (hk : xs[k]? = some (p, q)) (h : scE a b k p q = false) : allE a b 0 xs = false := by
  cases ha : allE a b 0 xs with
  | false => rfl
  | true =>
    rw [allE_iff] at ha
    have := ha k p q hk
    rw [Nat.zero_add, h] at this
    cases this
theorem ok1000 : okB 1000 1 = true := by decide
set_option maxRecDepth 20000 in
set_option maxHeartbeats 1000000 in
/-- spec.l02Ok -/
theorem sScOk (a b : Int) (A : Option Addr) (c j : Nat) (xs : List (Int × Int)) (w : World) (X1 : Hid (w.heap[j]? = some (.cells #[.int .i64 a, .int .i64 b, .slice A xs.length c] 37))) (X : Hid (RdF w A xs)) (hn : xs.length ≤ 1048576) :
    Calls Tryz.prog 45 #[.pointer (some ⟨j, 0, none⟩)] w fun e w' => e = .returned (.bool (sclB a b xs)) ∧ Gr w w' := by
  unfold sclB
  cases h1 : withinB a b 1000 with
  | false =>
    have HW := hid fun w => (swithin a b 1000 w ok1000)
    rw [h1] at HW
    go_enter Tryz.func45, Tryz.ntmps45
    obtain ⟨_, _, _⟩ := cells3 X1.out
    have _ := fz X1.out
    have _ := ltb X1.out
    go_wp2_with fail
    refine (HW.out _).mono ?_
    rintro e w1 ⟨rfl, hg1⟩
    have x1_1 := hg1.keep X1.out
    obtain ⟨_, _, _⟩ := cells3 x1_1
    have _ := fz x1_1
    have _ := ltb x1_1
    have X1_1 := hid x1_1; clear x1_1
    have G1 := hid (hg1)
    clear hg1
    go_wp2
    go_ret
    exact ⟨rfl, G1.out⟩
  | true =>
    have HW := hid fun w => (swithin a b 1000 w ok1000)
    rw [h1] at HW
    have ho := hid (within_ok h1)
    clear h1
    cases h2 : inB (xs.length : Int) 2 60 with
    | false =>
      have h2 := hid h2
      go_enter Tryz.func45, Tryz.ntmps45
      obtain ⟨_, _, _⟩ := cells3 X1.out
      have _ := fz X1.out
      have _ := ltb X1.out
      go_wp2_with fail
      refine (HW.out _).mono ?_
      rintro e w1 ⟨rfl, hg1⟩
      have x1_1 := hg1.keep X1.out
      obtain ⟨_, _, _⟩ := cells3 x1_1
      have _ := fz x1_1
      have _ := ltb x1_1
      have X1_1 := hid x1_1; clear x1_1
      have G1 := hid (hg1)
      clear hg1
      go_wp2_with fail
      refine (in_f _ _ _ _ h2.out).mono ?_
      rintro e w2 ⟨rfl, hg2⟩
      have x2_1 := hg2.keep X1_1.out
      obtain ⟨_, _, _⟩ := cells3 x2_1
      have _ := fz x2_1
      have _ := ltb x2_1
      have X2_1 := hid x2_1; clear x2_1
      have G2 := hid (G1.out.trans hg2)
      clear hg2
      go_wp2
      go_ret
      exact ⟨rfl, G2.out⟩
    | true =>
      obtain ⟨l1, l2⟩ := in_bd h2
      have h2 := hid h2
      obtain ⟨r, hr⟩ : ∃ r, allE a b 0 xs = r := ⟨_, rfl⟩
      rw [hr]
      have HR := hid hr
      clear hr
      go_enter Tryz.func45, Tryz.ntmps45
      obtain ⟨_, _, _⟩ := cells3 X1.out
      have _ := fz X1.out
      have _ := ltb X1.out
      go_wp2_with fail
      refine (HW.out _).mono ?_
      rintro e w1 ⟨rfl, hg1⟩
      have x1_1 := hg1.keep X1.out
      obtain ⟨_, _, _⟩ := cells3 x1_1
      have _ := fz x1_1
      have _ := ltb x1_1
      have X1_1 := hid x1_1; clear x1_1
      have G1 := hid (hg1)
      clear hg1
      go_wp2_with fail
      refine (in_t _ _ _ _ h2.out).mono ?_
      rintro e w2 ⟨rfl, hg2⟩
      have x2_1 := hg2.keep X1_1.out
      obtain ⟨_, _, _⟩ := cells3 x2_1
      have _ := fz x2_1
      have _ := ltb x2_1
      have X2_1 := hid x2_1; clear x2_1
      have G2 := hid (G1.out.trans hg2)
      clear hg2
      go_wp2_with fail
      go_loopw [3] (fun u wr => ∃ (k : Nat), u = .int .i64 (k : Int) ∧ k ≤ xs.length ∧ Gr w wr ∧ ∀ (i : Nat) (p q : Int), i < k → xs[i]? = some (p, q) → scE a b i p q = true) (fun u _ => xs.length - (intOf u).toNat)
      case atStart => exact ⟨0, rfl, by omega, G2.out, fun i p q h => by omega⟩
      case round =>
        obtain ⟨k, rfl, hk, g0, hall⟩ := hrel
        have Y1 := hid (g0.keep X1.out); have HX := hid (X.out.keep g0)
        have GW := hid g0; have HALL := hid hall
        clear g0 hall
        by_cases hlt : k < xs.length
        · obtain ⟨⟨p, q⟩, hpq⟩ : ∃ pq, xs[k]? = some pq := ⟨xs[k], List.getElem?_eq_getElem _⟩
          obtain ⟨ad, rfl, c1, c2⟩ := HX.out k p q hpq
          have HPQ := hid hpq; clear hpq
          cases hx : okB p q with
          | false =>
            have e : allE a b 0 xs = false := allE_no HPQ.out (by unfold scE; rw [hx]; rfl)
            have HX2 := hid hx
            clear hx
            obtain ⟨_, _, _⟩ := cells3 Y1.out
            have _ := fz Y1.out
            have _ := ltb Y1.out
            go_wp2_with fail
            refine wp_reg0 23 (by kernel_rfl) (by kernel_rfl) ?_
            apply Exists.intro
            refine ⟨fun wb hb => ?_, ?_⟩
            · obtain ⟨_, _, _⟩ := hb.at3 (((Gr.refl _).al _).keep Y1.out)
              obtain ⟨_, _⟩ := hb.at2 (alloc1 (Gr.refl _)).1
              simp only [headOps, List.contains, List.elem, reduceIte, Bool.false_eq_true]
              repeat (first | go_big_quiet_step (first | (go_at_call 89; exact Calls.of_gr (sok_f _ _ _ HX2.out))) | quiet_step (fail))
              exact wpQuiet_nil rfl
            intro w1 hg1
            obtain ⟨x1_0, hz1, g1⟩ := alloc1 hg1
            have x1_1 := g1.keep Y1.out
            obtain ⟨_, _, _⟩ := cells3 x1_1
            have _ := fz x1_1
            have _ := ltb x1_1
            obtain ⟨_, _⟩ := cells2 x1_0
            have _ := fz x1_0
            have _ := ltb x1_0
            have X1_1 := hid x1_1; clear x1_1
            have X1_0 := hid x1_0; clear x1_0
            have G1 := hid (GW.out.trans g1)
            clear hg1 g1
            go_wp2
            go_ret
            exact ⟨ret_bool (by rw [← HR.out, e]; simp), G1.out⟩
          | true =>
            obtain ⟨q0, q1, q2, q3, q4, q5⟩ := quarter_bd ho.out hx
            obtain ⟨_, _, d3, d4⟩ := okB_bd hx
            have HA := hid fun w => (abs_any p w (by omega) (by omega))
            have hkk : (k : Int) ≤ 60 := by omega
            have ht := hid (ok_whole (t := k) (by omega) (by omega))
            have HX2 := hid hx
            clear hx d3 d4
            cases hq : qtB a b p q with
            | false =>
              have e : allE a b 0 xs = false := allE_no HPQ.out (by unfold scE; rw [HX2.out, hq]; rfl)
              have hq1 : decide (a * q < 4 * absI p * b) = true := by unfold qtB at hq; simp at hq ⊢; exact hq
              unfold absI at *
              clear hq
              obtain ⟨_, _, _⟩ := cells3 Y1.out
              have _ := fz Y1.out
              have _ := ltb Y1.out
              go_wp2_with fail
              refine wp_reg0 23 (by kernel_rfl) (by kernel_rfl) ?_
              apply Exists.intro
              refine ⟨fun wb hb => ?_, ?_⟩
              · obtain ⟨_, _, _⟩ := hb.at3 (((Gr.refl _).al _).keep Y1.out)
                obtain ⟨_, _⟩ := hb.at2 (alloc1 (Gr.refl _)).1
                simp only [headOps, List.contains, List.elem, reduceIte, Bool.false_eq_true]
                repeat (first | go_big_quiet_step (first | (go_at_call 89; exact Calls.of_gr (sok_t _ _ _ HX2.out)) | (go_at_call 90; exact Calls.of_same (HA.out _))) | quiet_step (fail))
                exact wpQuiet_nil rfl
              intro w1 hg1
              obtain ⟨x1_0, hz1, g1⟩ := alloc1 hg1
              have x1_1 := g1.keep Y1.out
              obtain ⟨_, _, _⟩ := cells3 x1_1
              have _ := fz x1_1
              have _ := ltb x1_1
              obtain ⟨_, _⟩ := cells2 x1_0
              have _ := fz x1_0
              have _ := ltb x1_0
              have X1_1 := hid x1_1; clear x1_1
              have X1_0 := hid x1_0; clear x1_0
              have G1 := hid (GW.out.trans g1)
              clear hg1 g1
              go_wp2
              go_ret
              exact ⟨ret_bool (by rw [← HR.out, e]; simp), G1.out⟩
            | true =>
              have hq1 : decide (a * q < 4 * absI p * b) = false := by unfold qtB at hq; simp at hq ⊢; exact hq
              have HQ := hid hq
              clear hq
              cases hm : mkB a b k p q with
              | false =>
                have e : allE a b 0 xs = false := allE_no HPQ.out (by unfold scE; rw [HX2.out, HQ.out, hm]; rfl)
                have HM := hid hm; clear hm
                have HMK := hid fun (w' : World) (Z1 : Hid (w'.heap[j]? = some (.cells #[.int .i64 a, .int .i64 b, .slice (some ad) xs.length c] 37))) (Z : Hid (RdF w' (some ad) xs)) => smark_no a b (some ad) c k j xs p q w' Z1 Z HPQ.out (by omega) ho.out ht.out HX2.out HM.out
                unfold absI at *
                obtain ⟨_, _, _⟩ := cells3 Y1.out
                have _ := fz Y1.out
                have _ := ltb Y1.out
                go_wp2_with fail
                refine wp_reg0 23 (by kernel_rfl) (by kernel_rfl) ?_
                apply Exists.intro
                refine ⟨fun wb hb => ?_, ?_⟩
                · obtain ⟨_, _, _⟩ := hb.at3 (((Gr.refl _).al _).keep Y1.out)
                  obtain ⟨_, _⟩ := hb.at2 (alloc1 (Gr.refl _)).1
                  simp only [headOps, List.contains, List.elem, reduceIte, Bool.false_eq_true]
                  repeat (first | go_big_quiet_step (first | (go_at_call 89; exact Calls.of_gr (sok_t _ _ _ HX2.out)) | (go_at_call 90; exact Calls.of_same (HA.out _))) | quiet_step (fail))
                  exact wpQuiet_nil rfl
                intro w1 hg1
                obtain ⟨x1_0, hz1, g1⟩ := alloc1 hg1
                have x1_1 := g1.keep Y1.out
                obtain ⟨_, _, _⟩ := cells3 x1_1
                have _ := fz x1_1
                have _ := ltb x1_1
                obtain ⟨_, _⟩ := cells2 x1_0
                have _ := fz x1_0
                have _ := ltb x1_0
                have X1_1 := hid x1_1; clear x1_1
                have X1_0 := hid x1_0; clear x1_0
                have G1 := hid (GW.out.trans g1)
                clear hg1 g1
                go_wp2_with fail
                refine (HMK.out _ (hid X1_1.out) (hid (X.out.keep G1.out))).mono ?_
                rintro e w2 ⟨rfl, hg2⟩
                have x2_1 := hg2.keep X1_1.out
                have x2_2 := hg2.keep X1_0.out
                obtain ⟨_, _, _⟩ := cells3 x2_1
                have _ := fz x2_1
                have _ := ltb x2_1
                obtain ⟨_, _⟩ := cells2 x2_2
                have _ := fz x2_2
                have _ := ltb x2_2
                have X2_1 := hid x2_1; clear x2_1
                have X2_2 := hid x2_2; clear x2_2
                have G2 := hid (G1.out.trans hg2)
                clear hg2
                go_wp2
                go_ret
                exact ⟨ret_bool (by rw [← HR.out, e]; simp), (G2.out).al _⟩
              | true =>
                have HM := hid hm; clear hm
                have HMK := hid fun (w' : World) (Z1 : Hid (w'.heap[j]? = some (.cells #[.int .i64 a, .int .i64 b, .slice (some ad) xs.length c] 37))) (Z : Hid (RdF w' (some ad) xs)) => smark_yes a b (some ad) c k j xs p q w' Z1 Z HPQ.out (by omega) ho.out ht.out HX2.out HM.out
                have hqq : qtB a b p q = true := HQ.out
                have HE : Hid (scE a b k p q = true) := hid (by unfold scE; rw [HX2.out, hqq, HM.out]; rfl)
                clear hqq
                unfold absI at *
                obtain ⟨_, _, _⟩ := cells3 Y1.out
                have _ := fz Y1.out
                have _ := ltb Y1.out
                go_wp2_with fail
                refine wp_reg0 23 (by kernel_rfl) (by kernel_rfl) ?_
                apply Exists.intro
                refine ⟨fun wb hb => ?_, ?_⟩
                · obtain ⟨_, _, _⟩ := hb.at3 (((Gr.refl _).al _).keep Y1.out)
                  obtain ⟨_, _⟩ := hb.at2 (alloc1 (Gr.refl _)).1
                  simp only [headOps, List.contains, List.elem, reduceIte, Bool.false_eq_true]
                  repeat (first | go_big_quiet_step (first | (go_at_call 89; exact Calls.of_gr (sok_t _ _ _ HX2.out)) | (go_at_call 90; exact Calls.of_same (HA.out _))) | quiet_step (fail))
                  exact wpQuiet_nil rfl
                intro w1 hg1
                obtain ⟨x1_0, hz1, g1⟩ := alloc1 hg1
                have x1_1 := g1.keep Y1.out
                obtain ⟨_, _, _⟩ := cells3 x1_1
                have _ := fz x1_1
                have _ := ltb x1_1
                obtain ⟨_, _⟩ := cells2 x1_0
                have _ := fz x1_0
                have _ := ltb x1_0
                have X1_1 := hid x1_1; clear x1_1
                have X1_0 := hid x1_0; clear x1_0
                have G1 := hid (GW.out.trans g1)
                clear hg1 g1
                go_wp2_with fail
                refine (HMK.out _ (hid X1_1.out) (hid (X.out.keep G1.out))).mono ?_
                rintro e w2 ⟨rfl, hg2⟩
                have x2_1 := hg2.keep X1_1.out
                have x2_2 := hg2.keep X1_0.out
                obtain ⟨_, _, _⟩ := cells3 x2_1
                have _ := fz x2_1
                have _ := ltb x2_1
                obtain ⟨_, _⟩ := cells2 x2_2
                have _ := fz x2_2
                have _ := ltb x2_2
                have X2_1 := hid x2_1; clear x2_1
                have X2_2 := hid x2_2; clear x2_2
                have G2 := hid (G1.out.trans hg2)
                clear hg2
                go_wp2_with fail
                refine ⟨⟨k + 1, by simp, by omega, G2.out.al _, fun i p' q' hi hp' => ?_⟩, by simp [intOf]; omega⟩
                by_cases he : i = k
                · subst he
                  have := HPQ.out
                  rw [hp'] at this
                  cases this
                  exact HE.out
                · exact HALL.out i p' q' (by omega) hp'
        · have hke : k = xs.length := by omega
          have e : allE a b 0 xs = true := allE_yes (fun i p q hi hp => HALL.out i p q (by omega) hp)
          obtain ⟨_, _, _⟩ := cells3 Y1.out
          have _ := fz Y1.out
          have _ := ltb Y1.out
          go_wp2
          go_ret
          exact ⟨ret_bool (by rw [← HR.out, e]; simp), GW.out⟩
end Go.Proofs.YtgfopfomhgfcaaaGreatDoor
namespace Go.Proofs.YtgfopfomhgfcaaaGreatDoor
open Go.RowKit Go.Sort

theorem iat1000 (a b : Int) (w : World) (h1 : okB a b = true) : Calls Tryz.prog 109 #[fr a b, .int .i64 1000] w fun e w' => e = .returned (.bool (decide (0 < a) && decide (a ≤ 1000 * b))) ∧ Gr w w' := by
  obtain ⟨b1, b2, b3, b4⟩ := okB_bd h1
  exact iatmost a b 1000 w (by omega) (by omega)
theorem iMkCount_gr (n : Int) (w : World) : Calls Tryz.prog 110 #[.int .i64 n] w fun e w' => e = .returned (.bool (inB n 2 60)) ∧ Gr w w' :=
  (iMkCount n w).mono fun _ _ ⟨he, hg⟩ => ⟨he, hg ▸ Gr.refl _⟩
theorem allE_split {a b : Int} {xs : List (Int × Int)} : allE a b 0 xs = true ↔ (∀ (i : Nat) (p q : Int), xs[i]? = some (p, q) → okB p q = true ∧ qtB a b p q = true) ∧ AllMk a b xs := by
  rw [allE_iff]
  constructor
  · intro h
    refine ⟨fun i p q hp => ?_, fun i p q hp => ?_⟩
    · have := h i p q hp
      rw [Nat.zero_add] at this
      unfold scE at this
      simp only [Bool.and_eq_true] at this
      exact ⟨this.1, this.2.1⟩
    · have := h i p q hp
      rw [Nat.zero_add] at this
      unfold scE at this
      simp only [Bool.and_eq_true] at this
      exact this.2.2
  · rintro ⟨h1, h2⟩ i p q hp
    rw [Nat.zero_add]
    unfold scE
    obtain ⟨h3, h4⟩ := h1 i p q hp
    rw [h3, h4, h2 i p q hp]
    rfl
theorem all_of {xs : List (Int × Int)} (h : ∀ (i : Nat) (p q : Int), xs[i]? = some (p, q) → okB p q = true) : xs.all (fun x => okB x.1 x.2) = true := by
  rw [List.all_eq_true]
  rintro ⟨p, q⟩ hx
  obtain ⟨i, hi, e⟩ := List.getElem_of_mem hx
  exact h i p q (by rw [List.getElem?_eq_getElem hi, e])
set_option maxRecDepth 20000 in
set_option maxHeartbeats 400000 in
/-- The marks of a scale, told: the code. -/
theorem itold_marks (a b : Int) (A : Option Addr) (c k : Nat) (xs : List (Int × Int)) (w : World) (X1 : Hid (w.heap[k]? = some (.cells #[.int .i64 a, .int .i64 b, .slice A xs.length c] 37))) (X : Hid (RdF w A xs)) (hl : xs.length ≤ 60) (h1 : okB a b = true) (hx : xs.all (fun x => okB x.1 x.2) = true) :
    Calls Tryz.prog 112 #[.func (.func 113) #[] #[.pointer (some ⟨k, 0, none⟩)]] w fun e w' => (∃ v C, e = .returned (.tuple #[v, .int .i64 C]) ∧ ((C = 0 ∧ AllMk a b xs) ∨ (C = 3 ∧ ¬ AllMk a b xs))) ∧ Gr w w' := by
  by_cases h : AllMk a b xs
  · refine (told_ok_L 113 #[.pointer (some ⟨k, 0, none⟩)] (fun _ _ => True) (fun _ _ _ _ _ _ _ => trivial) w (fun _ => by kernel_rfl) (fun w' hg => ?_)).mono ?_
    · refine (iallMarks a b A c k xs w' (hid (hg.keep X1.out)) (hid (X.out.keep hg)) hl h1 hx none (.inl ⟨rfl, h⟩)).mono ?_
      rintro e w2 ⟨v, he, _, hg2⟩
      exact ⟨v, he, trivial, hg2⟩
    · rintro e w' ⟨v, he, _, hg⟩
      exact ⟨⟨v, 0, he, .inl ⟨rfl, h⟩⟩, hg⟩
  · refine (told_great_L 113 #[.pointer (some ⟨k, 0, none⟩)] w (fun _ => by kernel_rfl) (fun w' hg => ?_)).mono ?_
    · refine (iallMarks a b A c k xs w' (hid (hg.keep X1.out)) (hid (X.out.keep hg)) hl h1 hx (some TooGreat) (.inr ⟨rfl, h⟩)).mono ?_
      rintro e w2 ⟨ch, he, ⟨x, y, hch⟩, hg2⟩
      exact ⟨⟨x, y, by rw [he, hch]⟩, hg2⟩
    · rintro e w' ⟨he, hg⟩
      exact ⟨⟨_, 3, he, .inr ⟨rfl, h⟩⟩, hg⟩
set_option maxRecDepth 20000 in
set_option maxHeartbeats 1000000 in
theorem iScOk (a b : Int) (A : Option Addr) (c : Nat) (xs : List (Int × Int)) (w : World) (X : Hid (RdF w A xs)) (hn : xs.length ≤ 1048576) :
    Calls Tryz.prog 77 #[scl a b A xs.length c] w fun e w' => e = .returned (.bool (sclB a b xs)) ∧ Gr w w' := by
  unfold sclB withinB
  cases h1 : okB a b with
  | false =>
    have h1 := hid h1
    go_enter Tryz.func77, Tryz.ntmps77
    go_wp2_with fail
    refine (iok_f _ _ _ h1.out).mono ?_
    rintro e w1 ⟨rfl, hg1⟩
    obtain ⟨x1_0, hz1, g1⟩ := alloc1 hg1
    obtain ⟨_, _, _⟩ := cells3 x1_0
    have _ := fz x1_0
    have _ := ltb x1_0
    have X1_0 := hid x1_0; clear x1_0
    have G1 := hid (g1)
    clear hg1 g1
    go_wp2
    go_ret
    exact ⟨rfl, G1.out⟩
  | true =>
    have HA := hid fun w => iat1000 a b w h1
    have ho := hid h1
    clear h1
    cases h2 : (decide (0 < a) && decide (a ≤ 1000 * b)) with
    | false =>
      rw [h2] at HA
      go_enter Tryz.func77, Tryz.ntmps77
      go_wp2_with fail
      refine (iok_t _ _ _ ho.out).mono ?_
      rintro e w1 ⟨rfl, hg1⟩
      obtain ⟨x1_0, hz1, g1⟩ := alloc1 hg1
      obtain ⟨_, _, _⟩ := cells3 x1_0
      have _ := fz x1_0
      have _ := ltb x1_0
      have X1_0 := hid x1_0; clear x1_0
      have G1 := hid (g1)
      clear hg1 g1
      go_wp2_with fail
      refine (HA.out _).mono ?_
      rintro e w2 ⟨rfl, hg2⟩
      have x2_1 := hg2.keep X1_0.out
      obtain ⟨_, _, _⟩ := cells3 x2_1
      have _ := fz x2_1
      have _ := ltb x2_1
      have X2_1 := hid x2_1; clear x2_1
      have G2 := hid (G1.out.trans hg2)
      clear hg2
      go_wp2
      go_ret
      exact ⟨rfl, G2.out⟩
    | true =>
      rw [h2] at HA
      clear h2
      have HC := hid fun w => iMkCount_gr (xs.length : Int) w
      cases h3 : inB (xs.length : Int) 2 60 with
      | false =>
        rw [h3] at HC
        go_enter Tryz.func77, Tryz.ntmps77
        go_wp2_with fail
        refine (iok_t _ _ _ ho.out).mono ?_
        rintro e w1 ⟨rfl, hg1⟩
        obtain ⟨x1_0, hz1, g1⟩ := alloc1 hg1
        obtain ⟨_, _, _⟩ := cells3 x1_0
        have _ := fz x1_0
        have _ := ltb x1_0
        have X1_0 := hid x1_0; clear x1_0
        have G1 := hid (g1)
        clear hg1 g1
        go_wp2_with fail
        refine (HA.out _).mono ?_
        rintro e w2 ⟨rfl, hg2⟩
        have x2_1 := hg2.keep X1_0.out
        obtain ⟨_, _, _⟩ := cells3 x2_1
        have _ := fz x2_1
        have _ := ltb x2_1
        have X2_1 := hid x2_1; clear x2_1
        have G2 := hid (G1.out.trans hg2)
        clear hg2
        go_wp2_with fail
        refine (HC.out _).mono ?_
        rintro e w3 ⟨rfl, hg3⟩
        have x3_1 := hg3.keep X2_1.out
        obtain ⟨_, _, _⟩ := cells3 x3_1
        have _ := fz x3_1
        have _ := ltb x3_1
        have X3_1 := hid x3_1; clear x3_1
        have G3 := hid (G2.out.trans hg3)
        clear hg3
        go_wp2
        go_ret
        exact ⟨rfl, G3.out⟩
      | true =>
        rw [h3] at HC
        obtain ⟨l1, l2⟩ := in_bd h3
        clear h3
        obtain ⟨r, hr⟩ : ∃ r, allE a b 0 xs = r := ⟨_, rfl⟩
        rw [hr]
        have HR := hid hr
        clear hr
        go_enter Tryz.func77, Tryz.ntmps77
        go_wp2_with fail
        refine (iok_t _ _ _ ho.out).mono ?_
        rintro e w1 ⟨rfl, hg1⟩
        obtain ⟨x1_0, hz1, g1⟩ := alloc1 hg1
        obtain ⟨_, _, _⟩ := cells3 x1_0
        have _ := fz x1_0
        have _ := ltb x1_0
        have X1_0 := hid x1_0; clear x1_0
        have G1 := hid (g1)
        clear hg1 g1
        go_wp2_with fail
        refine (HA.out _).mono ?_
        rintro e w2 ⟨rfl, hg2⟩
        have x2_1 := hg2.keep X1_0.out
        obtain ⟨_, _, _⟩ := cells3 x2_1
        have _ := fz x2_1
        have _ := ltb x2_1
        have X2_1 := hid x2_1; clear x2_1
        have G2 := hid (G1.out.trans hg2)
        clear hg2
        go_wp2_with fail
        refine (HC.out _).mono ?_
        rintro e w3 ⟨rfl, hg3⟩
        have x3_1 := hg3.keep X2_1.out
        obtain ⟨_, _, _⟩ := cells3 x3_1
        have _ := fz x3_1
        have _ := ltb x3_1
        have X3_1 := hid x3_1; clear x3_1
        have G3 := hid (G2.out.trans hg3)
        clear hg3
        go_wp2_with fail
        go_loopw [27] (fun u wr => ∃ (k : Nat), u = .int .i64 (k : Int) ∧ k ≤ xs.length ∧ Gr w wr ∧ wr.heap[w.heap.size]? = some (.cells #[.int .i64 a, .int .i64 b, .slice A xs.length c] 37) ∧ ∀ (i : Nat) (p q : Int), i < k → xs[i]? = some (p, q) → okB p q = true ∧ qtB a b p q = true) (fun u _ => xs.length - (intOf u).toNat)
        case atStart => exact ⟨0, rfl, by omega, G3.out, X3_1.out, fun i p q h => by omega⟩
        case round =>
          obtain ⟨k, rfl, hk, g0, y0, hall⟩ := hrel
          have Y1 := hid y0; have HX := hid (X.out.keep g0)
          have GW := hid g0; have HALL := hid hall
          clear g0 hall y0
          by_cases hlt : k < xs.length
          · obtain ⟨⟨p, q⟩, hpq⟩ : ∃ pq, xs[k]? = some pq := ⟨xs[k], List.getElem?_eq_getElem _⟩
            obtain ⟨ad, rfl, c1, c2⟩ := HX.out k p q hpq
            have HPQ := hid hpq; clear hpq
            cases hx : okB p q with
            | false =>
              have e : allE a b 0 xs = false := allE_no HPQ.out (by unfold scE; rw [hx]; rfl)
              have HX2 := hid hx
              clear hx
              obtain ⟨_, _, _⟩ := cells3 Y1.out
              have _ := fz Y1.out
              have _ := ltb Y1.out
              go_wp2_with fail
              refine (iok_f _ _ _ HX2.out).mono ?_
              rintro e w1 ⟨rfl, hg1⟩
              obtain ⟨x1_0, hz1, g1⟩ := alloc1 hg1
              have x1_1 := g1.keep Y1.out
              obtain ⟨_, _, _⟩ := cells3 x1_1
              have _ := fz x1_1
              have _ := ltb x1_1
              obtain ⟨_, _⟩ := cells2 x1_0
              have _ := fz x1_0
              have _ := ltb x1_0
              have X1_1 := hid x1_1; clear x1_1
              have X1_0 := hid x1_0; clear x1_0
              have G1 := hid (GW.out.trans g1)
              clear hg1 g1
              go_wp2
              go_ret
              exact ⟨ret_bool (by rw [← HR.out, e]; simp), G1.out⟩
            | true =>
              have HQ := hid fun w => iquarter a b p q w ho.out hx
              have HX2 := hid hx
              clear hx
              cases hq : qtB a b p q with
              | false =>
                rw [hq] at HQ
                have e : allE a b 0 xs = false := allE_no HPQ.out (by unfold scE; rw [HX2.out, hq]; rfl)
                clear hq
                obtain ⟨_, _, _⟩ := cells3 Y1.out
                have _ := fz Y1.out
                have _ := ltb Y1.out
                go_wp2_with fail
                refine (iok_t _ _ _ HX2.out).mono ?_
                rintro e w1 ⟨rfl, hg1⟩
                obtain ⟨x1_0, hz1, g1⟩ := alloc1 hg1
                have x1_1 := g1.keep Y1.out
                obtain ⟨_, _, _⟩ := cells3 x1_1
                have _ := fz x1_1
                have _ := ltb x1_1
                obtain ⟨_, _⟩ := cells2 x1_0
                have _ := fz x1_0
                have _ := ltb x1_0
                have X1_1 := hid x1_1; clear x1_1
                have X1_0 := hid x1_0; clear x1_0
                have G1 := hid (GW.out.trans g1)
                clear hg1 g1
                go_wp2_with fail
                refine (HQ.out _).mono ?_
                rintro e w2 ⟨rfl, hg2⟩
                have x2_1 := hg2.keep X1_1.out
                have x2_2 := hg2.keep X1_0.out
                obtain ⟨_, _, _⟩ := cells3 x2_1
                have _ := fz x2_1
                have _ := ltb x2_1
                obtain ⟨_, _⟩ := cells2 x2_2
                have _ := fz x2_2
                have _ := ltb x2_2
                have X2_1 := hid x2_1; clear x2_1
                have X2_2 := hid x2_2; clear x2_2
                have G2 := hid (G1.out.trans hg2)
                clear hg2
                go_wp2
                go_ret
                exact ⟨ret_bool (by rw [← HR.out, e]; simp), G2.out⟩
              | true =>
                rw [hq] at HQ
                have HQ2 := hid hq
                clear hq
                obtain ⟨_, _, _⟩ := cells3 Y1.out
                have _ := fz Y1.out
                have _ := ltb Y1.out
                go_wp2_with fail
                refine (iok_t _ _ _ HX2.out).mono ?_
                rintro e w1 ⟨rfl, hg1⟩
                obtain ⟨x1_0, hz1, g1⟩ := alloc1 hg1
                have x1_1 := g1.keep Y1.out
                obtain ⟨_, _, _⟩ := cells3 x1_1
                have _ := fz x1_1
                have _ := ltb x1_1
                obtain ⟨_, _⟩ := cells2 x1_0
                have _ := fz x1_0
                have _ := ltb x1_0
                have X1_1 := hid x1_1; clear x1_1
                have X1_0 := hid x1_0; clear x1_0
                have G1 := hid (GW.out.trans g1)
                clear hg1 g1
                go_wp2_with fail
                refine (HQ.out _).mono ?_
                rintro e w2 ⟨rfl, hg2⟩
                have x2_1 := hg2.keep X1_1.out
                have x2_2 := hg2.keep X1_0.out
                obtain ⟨_, _, _⟩ := cells3 x2_1
                have _ := fz x2_1
                have _ := ltb x2_1
                obtain ⟨_, _⟩ := cells2 x2_2
                have _ := fz x2_2
                have _ := ltb x2_2
                have X2_1 := hid x2_1; clear x2_1
                have X2_2 := hid x2_2; clear x2_2
                have G2 := hid (G1.out.trans hg2)
                clear hg2
                go_wp2_with fail
                refine ⟨⟨k + 1, by simp, by omega, G2.out, X2_1.out, fun i p' q' hi hp' => ?_⟩, by simp [intOf]; omega⟩
                by_cases he : i = k
                · subst he
                  have := HPQ.out
                  rw [hp'] at this
                  cases this
                  exact ⟨HX2.out, HQ2.out⟩
                · exact HALL.out i p' q' (by omega) hp'
          · have hke : k = xs.length := by omega
            have hall : ∀ (i : Nat) (p q : Int), xs[i]? = some (p, q) → okB p q = true ∧ qtB a b p q = true := fun i p q hp => HALL.out i p q (by rw [hke]; exact (List.getElem?_eq_some_iff.1 hp).1) hp
            have HT := hid fun (w' : World) (Z1 : Hid (w'.heap[w.heap.size]? = some (.cells #[.int .i64 a, .int .i64 b, .slice A xs.length c] 37))) (Z : Hid (RdF w' A xs)) => itold_marks a b A c w.heap.size xs w' Z1 Z (by omega) ho.out (all_of (fun i p q hp => (hall i p q hp).1))
            have HALL2 := hid hall
            clear hall
            obtain ⟨_, _, _⟩ := cells3 Y1.out
            have _ := fz Y1.out
            have _ := ltb Y1.out
            go_wp2_with fail
            refine (HT.out _ (hid Y1.out) (hid HX.out)).mono ?_
            rintro e w1 ⟨⟨v, C, rfl, hC⟩, hg1⟩
            have G1 := hid (GW.out.trans hg1)
            clear hg1
            rcases hC with ⟨rfl, hm⟩ | ⟨rfl, hm⟩
            · have e : allE a b 0 xs = true := allE_split.2 ⟨HALL2.out, hm⟩
              go_wp2
              go_ret
              exact ⟨ret_bool (by rw [← HR.out, e]; simp), G1.out⟩
            · have e : allE a b 0 xs = false := by
                cases h : allE a b 0 xs with
                | false => rfl
                | true => exact absurd (allE_split.1 h).2 hm
              go_wp2
              go_ret
              exact ⟨ret_bool (by rw [← HR.out, e]; simp), G1.out⟩
end Go.Proofs.YtgfopfomhgfcaaaGreatDoor
namespace Go.Proofs.YtgfopfomhgfcaaaGreatDoor
open Go.RowKit Go.Sort

theorem sScT (a b : Int) (A : Option Addr) (c j : Nat) (xs : List (Int × Int)) (w : World) (X1 : Hid (w.heap[j]? = some (.cells #[.int .i64 a, .int .i64 b, .slice A xs.length c] 37))) (X : Hid (RdF w A xs)) (hn : xs.length ≤ 1048576) (h : sclB a b xs = true) :
    Calls Tryz.prog 45 #[.pointer (some ⟨j, 0, none⟩)] w fun e w' => e = .returned (.bool true) ∧ Gr w w' := (sScOk a b A c j xs w X1 X hn).mono fun _ _ ⟨he, hg⟩ => ⟨by rw [he, h], hg⟩
theorem sScF (a b : Int) (A : Option Addr) (c j : Nat) (xs : List (Int × Int)) (w : World) (X1 : Hid (w.heap[j]? = some (.cells #[.int .i64 a, .int .i64 b, .slice A xs.length c] 37))) (X : Hid (RdF w A xs)) (hn : xs.length ≤ 1048576) (h : sclB a b xs = false) :
    Calls Tryz.prog 45 #[.pointer (some ⟨j, 0, none⟩)] w fun e w' => e = .returned (.bool false) ∧ Gr w w' := (sScOk a b A c j xs w X1 X hn).mono fun _ _ ⟨he, hg⟩ => ⟨by rw [he, h], hg⟩
theorem iScT (a b : Int) (A : Option Addr) (c : Nat) (xs : List (Int × Int)) (w : World) (X : Hid (RdF w A xs)) (hn : xs.length ≤ 1048576) (h : sclB a b xs = true) :
    Calls Tryz.prog 77 #[scl a b A xs.length c] w fun e w' => e = .returned (.bool true) ∧ Gr w w' := (iScOk a b A c xs w X hn).mono fun _ _ ⟨he, hg⟩ => ⟨by rw [he, h], hg⟩
theorem iScF (a b : Int) (A : Option Addr) (c : Nat) (xs : List (Int × Int)) (w : World) (X : Hid (RdF w A xs)) (hn : xs.length ≤ 1048576) (h : sclB a b xs = false) :
    Calls Tryz.prog 77 #[scl a b A xs.length c] w fun e w' => e = .returned (.bool false) ∧ Gr w w' := (iScOk a b A c xs w X hn).mono fun _ _ ⟨he, hg⟩ => ⟨by rw [he, h], hg⟩
/-- What a valid scale is. -/
structure Scl (a b : Int) (xs : List (Int × Int)) : Prop where
  unit : okB a b = true
  pos : 0 < a
  lo : 2 ≤ xs.length
  hi : xs.length ≤ 60
  ok : ∀ (k : Nat) (p q : Int), xs[k]? = some (p, q) → okB p q = true
  mark : AllMk a b xs
  all : xs.all (fun x => okB x.1 x.2) = true
theorem scl_of {a b : Int} {xs : List (Int × Int)} (h : sclB a b xs = true) : Scl a b xs := by
  unfold sclB withinB at h
  simp only [Bool.and_eq_true, decide_eq_true_eq] at h
  obtain ⟨⟨h1, h2, _⟩, h3, h4⟩ := h
  obtain ⟨h5, h6⟩ := allE_split.1 h4
  obtain ⟨l1, l2⟩ := in_bd h3
  exact ⟨h1, h2, by omega, by omega, fun k p q hk => (h5 k p q hk).1, h6, all_of fun k p q hk => (h5 k p q hk).1⟩
end Go.Proofs.YtgfopfomhgfcaaaGreatDoor
namespace Go.Proofs.YtgfopfomhgfcaaaGreatDoor
open Go.RowKit Go.Sort

theorem absI_bd {p q : Int} (h : okB p q = true) : okB (absI p) q = true := by
  obtain ⟨b1, b2, b3, b4⟩ := okB_bd h
  rw [okB_iff] at h ⊢
  unfold Ok at h ⊢
  unfold absI
  obtain ⟨h1, h2, h3, h4, h5⟩ := h
  refine ⟨h1, h2, by omega, by omega, ?_⟩
  simpa [Int.gcd] using h5
theorem isize_gr (p q : Int) (w : World) (h : okB p q = true) :
    Calls Tryz.prog 143 #[fr p q] w fun e w' => e = .returned (fr (absI p) q) ∧ Gr w w' := by
  obtain ⟨b1, b2, b3, b4⟩ := okB_bd h
  exact isize p q w (by omega) (by omega)
/-- The greatest size from P / Q on. -/
def wst : List (Int × Int) → Int → Int → Int × Int
  | [], P, Q => (P, Q)
  | x :: r, P, Q => wst r (mxP P Q (absI x.1) x.2) (mxQ P Q (absI x.1) x.2)
theorem wst_step {xs : List (Int × Int)} {k : Nat} {p q P Q : Int} (h : xs[k]? = some (p, q)) :
    wst (xs.drop k) P Q = wst (xs.drop (k + 1)) (mxP P Q (absI p) q) (mxQ P Q (absI p) q) := by
  have hk : k < xs.length := (List.getElem?_eq_some_iff.1 h).1
  have e : xs[k] = (p, q) := (List.getElem?_eq_some_iff.1 h).2
  rw [List.drop_eq_getElem_cons hk, e]
  rfl
theorem wst_ok : ∀ (xs : List (Int × Int)) (P Q : Int), okB P Q = true → xs.all (fun x => okB x.1 x.2) = true → okB (wst xs P Q).1 (wst xs P Q).2 = true
  | [], P, Q, h, _ => h
  | x :: r, P, Q, h, hx => by
    simp only [List.all_cons, Bool.and_eq_true] at hx
    exact wst_ok r _ _ (ok_mx h (absI_bd hx.1)) hx.2
end Go.Proofs.YtgfopfomhgfcaaaGreatDoor
namespace Go.Proofs.YtgfopfomhgfcaaaGreatDoor
open Go.RowKit Go.Sort

def lcB (a b n : Int) : Bool := okB (redP (a * 1) (b * n)) (redQ (a * 1) (b * n))
theorem vern_bd {n : Int} (h : inB n 2 40 = true) : okB n 1 = true ∧ n ≠ 0 := by
  obtain ⟨h1, h2⟩ := in_bd h
  exact ⟨ok_whole (by omega) (by omega), by omega⟩
theorem iVernGr (n : Int) (r : Bool) (w : World) : Calls Tryz.prog 78 #[vn n r] w fun e w' => e = .returned (.bool (inB n 2 40)) ∧ Gr w w' := iValidVernier n r w
end Go.Proofs.YtgfopfomhgfcaaaGreatDoor
