/- BENCHES: the scale and the vernier within a bench, of the reference. Written by gen_b8.py. -/
import Derived.Test.YtflfjedimcbfeaaBe
import Derived.Test.YtflfjedimcbfeaaB8
import Derived.Test.YtflfjedimcbfeaaSkf
namespace Go.Proofs.Ytflfjedimcbfeaa
open Go.RowKit Go.Sort

set_option maxRecDepth 20000 in
set_option maxHeartbeats 400000 in
theorem smark8_f1 (v3 v4 v5 v6 v7 : Value) (a b : Int) (A : Option Addr) (c k j : Nat) (xs : List (Int × Int)) (w : World) (X1 : Hid (w.heap[j]? = some (.cells #[.int .i64 a, .int .i64 b, .slice A xs.length c, v3, v4, v5, v6, v7] 41)))
    (h1 : okB a b = true) (ht : okB k 1 = true) (g1 : n1B a b k = false) :
    Calls Try.prog 105 #[.pointer (some ⟨j, 0, none⟩), .int .i64 k] w fun e w' => e = .returned (.tuple #[fr 0 0, .int .i64 3]) ∧ Gr w w' := by
  have h1 := hid h1; have ht := hid ht; have g1 := hid g1
  go_enter Try.func105, Try.ntmps105
  obtain ⟨_, _, _, _, _, _, _, _⟩ := cells8 X1.out
  have _ := fz X1.out
  have _ := ltb X1.out
  go_wp2_with fail
  refine wp_reg1s #[.int .i64 0, .int .i64 0] 12 10 6 11 16 (by kernel_rfl) (by kernel_rfl) rfl rfl (by simp) rfl rfl (by decide) (fun _ _ => by kernel_rfl) (by kernel_rfl) ?_
  apply Exists.intro; apply Exists.intro
  refine ⟨fun wb hb => ?_, ?_⟩
  · obtain ⟨y0, _, _⟩ := alloc1 (Gr.refl _)
    obtain ⟨_, _⟩ := hb.at2 y0
    clear y0
    obtain ⟨_, _, _, _, _, _, _, _⟩ := hb.at8 (((Gr.refl _).al _).keep X1.out)
    simp only [headOps, List.contains, List.elem, Nat.reduceAdd, Nat.reduceBEq, reduceIte, Bool.false_eq_true, dumOp]
    repeat (first | go_big_quiet_step (first | (go_at_call 107; exact Calls.of_gr (swhole1 _ _)) | (go_at_call 90; exact Calls.of_gr (smul_f _ _ _ _ _ ht.out h1.out g1.out))) | quiet_step (fail))
    exact wpQuiet_nil rfl
  refine ⟨rfl, ⟨rfl, by simp [Value.oneCell']⟩, fun w1 b1 hg1 _ xb1 => ?_⟩
  obtain ⟨x1_0, hz1, g1⟩ := alloc1 hg1
  have x1_1 := g1.keep X1.out
  obtain ⟨_, _⟩ := cells2 x1_0
  have _ := fz x1_0
  have _ := ltb x1_0
  obtain ⟨_, _, _, _, _, _, _, _⟩ := cells8 x1_1
  have _ := fz x1_1
  have _ := ltb x1_1
  obtain ⟨_, _⟩ := cells2 xb1
  have _ := fz xb1
  have _ := ltb xb1
  have X1_0 := hid x1_0; clear x1_0
  have X1_1 := hid x1_1; clear x1_1
  have Xb1 := hid xb1; clear xb1
  have G1 := hid (g1)
  clear hg1 g1
  go_wp2
  refine bodyPost_ret (v := .tuple #[fr 0 0, .int .i64 3]) (by simp [results, Try.results105, go_sem, *]) rfl ⟨rfl, ?_⟩
  exact ((G1.out).setCell (by simp <;> omega) _).setCell (by simp <;> omega) _
set_option maxRecDepth 20000 in
set_option maxHeartbeats 400000 in
theorem smark8_f2 (v3 v4 v5 v6 v7 : Value) (a b : Int) (A : Option Addr) (c k j : Nat) (xs : List (Int × Int)) (p q : Int) (w : World) (X1 : Hid (w.heap[j]? = some (.cells #[.int .i64 a, .int .i64 b, .slice A xs.length c, v3, v4, v5, v6, v7] 41)))
    (X : Hid (RdF w A xs)) (hk : xs[k]? = some (p, q)) (_hn : xs.length ≤ 1048576) (h1 : okB a b = true) (ht : okB k 1 = true) (h2 : okB p q = true) (g1 : n1B a b k = true) (g2 : mk2 a b k p q = false) :
    Calls Try.prog 105 #[.pointer (some ⟨j, 0, none⟩), .int .i64 k] w fun e w' => e = .returned (.tuple #[fr 0 0, .int .i64 3]) ∧ Gr w w' := by
  have hlt := (List.getElem?_eq_some_iff.1 hk).1
  obtain ⟨ad, rfl, c1, c2⟩ := X.out k p q hk
  have C1 := hid c1; have C2 := hid c2
  have h1 := hid h1; have ht := hid ht; have h2 := hid h2; have g1 := hid g1; have g2 := hid g2
  clear hk c1 c2
  go_enter Try.func105, Try.ntmps105
  obtain ⟨_, _, _, _, _, _, _, _⟩ := cells8 X1.out
  have _ := fz X1.out
  have _ := ltb X1.out
  go_wp2_with fail
  refine wp_reg1s #[.int .i64 0, .int .i64 0] 12 10 6 11 16 (by kernel_rfl) (by kernel_rfl) rfl rfl (by simp) rfl rfl (by decide) (fun _ _ => by kernel_rfl) (by kernel_rfl) ?_
  apply Exists.intro; apply Exists.intro
  refine ⟨fun wb hb => ?_, ?_⟩
  · obtain ⟨y0, _, _⟩ := alloc1 (Gr.refl _)
    obtain ⟨_, _⟩ := hb.at2 y0
    clear y0
    obtain ⟨_, _, _, _, _, _, _, _⟩ := hb.at8 (((Gr.refl _).al _).keep X1.out)
    simp only [headOps, List.contains, List.elem, Nat.reduceAdd, Nat.reduceBEq, reduceIte, Bool.false_eq_true, dumOp]
    repeat (first | go_big_quiet_step (first | (go_at_call 107; exact Calls.of_gr (swhole1 _ _)) | (go_at_call 90; exact Calls.of_gr (mulw_t a b k _ h1.out ht.out g1.out))) | quiet_step (fail))
    exact wpQuiet_nil rfl
  refine ⟨rfl, ⟨rfl, by simp [Value.oneCell']⟩, fun w1 b1 hg1 _ xb1 => ?_⟩
  obtain ⟨x1_0, hz1, g1⟩ := alloc1 hg1
  have x1_1 := g1.keep X1.out
  obtain ⟨_, _⟩ := cells2 x1_0
  have _ := fz x1_0
  have _ := ltb x1_0
  obtain ⟨_, _, _, _, _, _, _, _⟩ := cells8 x1_1
  have _ := fz x1_1
  have _ := ltb x1_1
  obtain ⟨_, _⟩ := cells2 xb1
  have _ := fz xb1
  have _ := ltb xb1
  have X1_0 := hid x1_0; clear x1_0
  have X1_1 := hid x1_1; clear x1_1
  have Xb1 := hid xb1; clear xb1
  have G1 := hid (g1)
  clear hg1 g1
  go_wp2_with fail
  refine wp_reg0 11 (by kernel_rfl) (by kernel_rfl) ?_
  apply Exists.intro
  refine ⟨fun wb hb => ?_, ?_⟩
  · obtain ⟨_, _⟩ := hb.at2 X1_0.out
    obtain ⟨_, _, _, _, _, _, _, _⟩ := hb.at8 X1_1.out
    obtain ⟨_, _⟩ := hb.at2 Xb1.out
    have hg := G1.out.trans hb
    have _ := hg.atF C1.out; have _ := hg.atF C2.out
    clear hg
    simp only [headOps, List.contains, List.elem, reduceIte, Bool.false_eq_true]
    repeat (first | go_big_quiet_step (first | (go_at_call 91; exact Calls.of_gr (saddm_f a b k p q _ h2.out g1.out g2.out))) | quiet_step (fail))
    exact wpQuiet_nil rfl
  intro w2 hg2
  have x2_1 := hg2.keep X1_0.out
  have x2_2 := hg2.keep X1_1.out
  have x2_3 := hg2.keep Xb1.out
  obtain ⟨_, _⟩ := cells2 x2_1
  have _ := fz x2_1
  have _ := ltb x2_1
  obtain ⟨_, _, _, _, _, _, _, _⟩ := cells8 x2_2
  have _ := fz x2_2
  have _ := ltb x2_2
  obtain ⟨_, _⟩ := cells2 x2_3
  have _ := fz x2_3
  have _ := ltb x2_3
  have X2_1 := hid x2_1; clear x2_1
  have X2_2 := hid x2_2; clear x2_2
  have X2_3 := hid x2_3; clear x2_3
  have G2 := hid (G1.out.trans hg2)
  clear hg2
  go_wp2
  refine bodyPost_ret (v := .tuple #[fr 0 0, .int .i64 3]) (by simp [results, Try.results105, go_sem, *]) rfl ⟨rfl, ?_⟩
  exact ((G2.out).setCell (by simp <;> omega) _).setCell (by simp <;> omega) _
set_option maxRecDepth 20000 in
set_option maxHeartbeats 400000 in
theorem smark8_t (v3 v4 v5 v6 v7 : Value) (a b : Int) (A : Option Addr) (c k j : Nat) (xs : List (Int × Int)) (p q : Int) (w : World) (X1 : Hid (w.heap[j]? = some (.cells #[.int .i64 a, .int .i64 b, .slice A xs.length c, v3, v4, v5, v6, v7] 41)))
    (X : Hid (RdF w A xs)) (hk : xs[k]? = some (p, q)) (_hn : xs.length ≤ 1048576) (h1 : okB a b = true) (ht : okB k 1 = true) (h2 : okB p q = true) (g1 : n1B a b k = true) (g2 : mk2 a b k p q = true) :
    Calls Try.prog 105 #[.pointer (some ⟨j, 0, none⟩), .int .i64 k] w fun e w' => e = .returned (.tuple #[fr (mkP a b k p q) (mkQ a b k p q), .int .i64 0]) ∧ Gr w w' := by
  have hlt := (List.getElem?_eq_some_iff.1 hk).1
  obtain ⟨ad, rfl, c1, c2⟩ := X.out k p q hk
  have C1 := hid c1; have C2 := hid c2
  have h1 := hid h1; have ht := hid ht; have h2 := hid h2; have g1 := hid g1; have g2 := hid g2
  clear hk c1 c2
  go_enter Try.func105, Try.ntmps105
  obtain ⟨_, _, _, _, _, _, _, _⟩ := cells8 X1.out
  have _ := fz X1.out
  have _ := ltb X1.out
  go_wp2_with fail
  refine wp_reg1s #[.int .i64 0, .int .i64 0] 12 10 6 11 16 (by kernel_rfl) (by kernel_rfl) rfl rfl (by simp) rfl rfl (by decide) (fun _ _ => by kernel_rfl) (by kernel_rfl) ?_
  apply Exists.intro; apply Exists.intro
  refine ⟨fun wb hb => ?_, ?_⟩
  · obtain ⟨y0, _, _⟩ := alloc1 (Gr.refl _)
    obtain ⟨_, _⟩ := hb.at2 y0
    clear y0
    obtain ⟨_, _, _, _, _, _, _, _⟩ := hb.at8 (((Gr.refl _).al _).keep X1.out)
    simp only [headOps, List.contains, List.elem, Nat.reduceAdd, Nat.reduceBEq, reduceIte, Bool.false_eq_true, dumOp]
    repeat (first | go_big_quiet_step (first | (go_at_call 107; exact Calls.of_gr (swhole1 _ _)) | (go_at_call 90; exact Calls.of_gr (mulw_t a b k _ h1.out ht.out g1.out))) | quiet_step (fail))
    exact wpQuiet_nil rfl
  refine ⟨rfl, ⟨rfl, by simp [Value.oneCell']⟩, fun w1 b1 hg1 _ xb1 => ?_⟩
  obtain ⟨x1_0, hz1, g1⟩ := alloc1 hg1
  have x1_1 := g1.keep X1.out
  obtain ⟨_, _⟩ := cells2 x1_0
  have _ := fz x1_0
  have _ := ltb x1_0
  obtain ⟨_, _, _, _, _, _, _, _⟩ := cells8 x1_1
  have _ := fz x1_1
  have _ := ltb x1_1
  obtain ⟨_, _⟩ := cells2 xb1
  have _ := fz xb1
  have _ := ltb xb1
  have X1_0 := hid x1_0; clear x1_0
  have X1_1 := hid x1_1; clear x1_1
  have Xb1 := hid xb1; clear xb1
  have G1 := hid (g1)
  clear hg1 g1
  go_wp2_with fail
  refine wp_reg0 11 (by kernel_rfl) (by kernel_rfl) ?_
  apply Exists.intro
  refine ⟨fun wb hb => ?_, ?_⟩
  · obtain ⟨_, _⟩ := hb.at2 X1_0.out
    obtain ⟨_, _, _, _, _, _, _, _⟩ := hb.at8 X1_1.out
    obtain ⟨_, _⟩ := hb.at2 Xb1.out
    have hg := G1.out.trans hb
    have _ := hg.atF C1.out; have _ := hg.atF C2.out
    clear hg
    simp only [headOps, List.contains, List.elem, reduceIte, Bool.false_eq_true]
    repeat (first | go_big_quiet_step (first | (go_at_call 91; exact Calls.of_gr (saddm_t a b k p q _ h2.out g1.out g2.out))) | quiet_step (fail))
    exact wpQuiet_nil rfl
  intro w2 hg2
  have x2_1 := hg2.keep X1_0.out
  have x2_2 := hg2.keep X1_1.out
  have x2_3 := hg2.keep Xb1.out
  obtain ⟨_, _⟩ := cells2 x2_1
  have _ := fz x2_1
  have _ := ltb x2_1
  obtain ⟨_, _, _, _, _, _, _, _⟩ := cells8 x2_2
  have _ := fz x2_2
  have _ := ltb x2_2
  obtain ⟨_, _⟩ := cells2 x2_3
  have _ := fz x2_3
  have _ := ltb x2_3
  have X2_1 := hid x2_1; clear x2_1
  have X2_2 := hid x2_2; clear x2_2
  have X2_3 := hid x2_3; clear x2_3
  have G2 := hid (G1.out.trans hg2)
  clear hg2
  go_wp2
  refine bodyPost_ret (v := .tuple #[fr (mkP a b k p q) (mkQ a b k p q), .int .i64 0]) (by simp [results, Try.results105, go_sem, *]) rfl ⟨rfl, ?_⟩
  exact ((G2.out).setCell (by simp <;> omega) _).setCell (by simp <;> omega) _
end Go.Proofs.Ytflfjedimcbfeaa
namespace Go.Proofs.Ytflfjedimcbfeaa
open Go.RowKit Go.Sort Go.Shelf
attribute [local go_sem] Oper.semAt_some wide_fn

theorem smark8_no (v3 v4 v5 v6 v7 : Value) (a b : Int) (A : Option Addr) (c k j : Nat) (xs : List (Int × Int)) (p q : Int) (w : World) (X1 : Hid (w.heap[j]? = some (.cells #[.int .i64 a, .int .i64 b, .slice A xs.length c, v3, v4, v5, v6, v7] 41)))
    (X : Hid (RdF w A xs)) (hk : xs[k]? = some (p, q)) (hn : xs.length ≤ 1048576) (h1 : okB a b = true) (ht : okB k 1 = true) (h2 : okB p q = true) (g : mkB a b k p q = false) :
    Calls Try.prog 105 #[.pointer (some ⟨j, 0, none⟩), .int .i64 k] w fun e w' => e = .returned (.tuple #[fr 0 0, .int .i64 3]) ∧ Gr w w' := by
  unfold mkB at g
  cases g1 : n1B a b k with
  | false => exact smark8_f1 v3 v4 v5 v6 v7 a b A c k j xs w X1 h1 ht g1
  | true =>
    rw [g1] at g
    exact smark8_f2 v3 v4 v5 v6 v7 a b A c k j xs p q w X1 X hk hn h1 ht h2 g1 (by simpa using g)
theorem smark8_yes (v3 v4 v5 v6 v7 : Value) (a b : Int) (A : Option Addr) (c k j : Nat) (xs : List (Int × Int)) (p q : Int) (w : World) (X1 : Hid (w.heap[j]? = some (.cells #[.int .i64 a, .int .i64 b, .slice A xs.length c, v3, v4, v5, v6, v7] 41)))
    (X : Hid (RdF w A xs)) (hk : xs[k]? = some (p, q)) (hn : xs.length ≤ 1048576) (h1 : okB a b = true) (ht : okB k 1 = true) (h2 : okB p q = true) (g : mkB a b k p q = true) :
    Calls Try.prog 105 #[.pointer (some ⟨j, 0, none⟩), .int .i64 k] w fun e w' => e = .returned (.tuple #[fr (mkP a b k p q) (mkQ a b k p q), .int .i64 0]) ∧ Gr w w' := by
  unfold mkB at g
  simp only [Bool.and_eq_true] at g
  exact smark8_t v3 v4 v5 v6 v7 a b A c k j xs p q w X1 X hk hn h1 ht h2 g.1 g.2
/-- All marks of a scale. -/
def mksB (a b : Int) (xs : List (Int × Int)) : List (Int × Int) := xs.mapIdx fun k x => (mkP a b k x.1 x.2, mkQ a b k x.1 x.2)
set_option maxRecDepth 20000 in
set_option maxHeartbeats 1000000 in
/-- spec.l02Ok -/
theorem sScOk8 (v3 v4 v5 v6 v7 : Value) (a b : Int) (A : Option Addr) (c j : Nat) (xs : List (Int × Int)) (w : World) (X1 : Hid (w.heap[j]? = some (.cells #[.int .i64 a, .int .i64 b, .slice A xs.length c, v3, v4, v5, v6, v7] 41))) (X : Hid (RdF w A xs)) (hn : xs.length ≤ 1048576) :
    Calls Try.prog 67 #[.pointer (some ⟨j, 0, none⟩)] w fun e w' => e = .returned (.bool (sclB a b xs)) ∧ Gr w w' := by
  unfold sclB
  cases h1 : withinB a b 1000 with
  | false =>
    have HW := hid fun w => (swithin a b 1000 w ok1000)
    rw [h1] at HW
    go_enter Try.func67, Try.ntmps67
    obtain ⟨_, _, _, _, _, _, _, _⟩ := cells8 X1.out
    have _ := fz X1.out
    have _ := ltb X1.out
    go_wp2_with fail
    refine (HW.out _).mono ?_
    rintro e w1 ⟨rfl, hg1⟩
    have x1_1 := hg1.keep X1.out
    obtain ⟨_, _, _, _, _, _, _, _⟩ := cells8 x1_1
    have _ := fz x1_1
    have _ := ltb x1_1
    have X1_1 := hid x1_1; clear x1_1
    have G1 := hid (hg1)
    clear hg1
    go_wp2
    go_ret
    exact ⟨rfl, G1.out⟩
  | true =>
    have HW := hid fun w => (swithin a b 1000 w ok1000)
    rw [h1] at HW
    have ho := hid (within_ok h1)
    clear h1
    cases h2 : inB (xs.length : Int) 2 60 with
    | false =>
      have h2 := hid h2
      go_enter Try.func67, Try.ntmps67
      obtain ⟨_, _, _, _, _, _, _, _⟩ := cells8 X1.out
      have _ := fz X1.out
      have _ := ltb X1.out
      go_wp2_with fail
      refine (HW.out _).mono ?_
      rintro e w1 ⟨rfl, hg1⟩
      have x1_1 := hg1.keep X1.out
      obtain ⟨_, _, _, _, _, _, _, _⟩ := cells8 x1_1
      have _ := fz x1_1
      have _ := ltb x1_1
      have X1_1 := hid x1_1; clear x1_1
      have G1 := hid (hg1)
      clear hg1
      go_wp2_with fail
      refine (in_f _ _ _ _ h2.out).mono ?_
      rintro e w2 ⟨rfl, hg2⟩
      have x2_1 := hg2.keep X1_1.out
      obtain ⟨_, _, _, _, _, _, _, _⟩ := cells8 x2_1
      have _ := fz x2_1
      have _ := ltb x2_1
      have X2_1 := hid x2_1; clear x2_1
      have G2 := hid (G1.out.trans hg2)
      clear hg2
      go_wp2
      go_ret
      exact ⟨rfl, G2.out⟩
    | true =>
      obtain ⟨l1, l2⟩ := in_bd h2
      have h2 := hid h2
      obtain ⟨r, hr⟩ : ∃ r, allE a b 0 xs = r := ⟨_, rfl⟩
      rw [hr]
      have HR := hid hr
      clear hr
      go_enter Try.func67, Try.ntmps67
      obtain ⟨_, _, _, _, _, _, _, _⟩ := cells8 X1.out
      have _ := fz X1.out
      have _ := ltb X1.out
      go_wp2_with fail
      refine (HW.out _).mono ?_
      rintro e w1 ⟨rfl, hg1⟩
      have x1_1 := hg1.keep X1.out
      obtain ⟨_, _, _, _, _, _, _, _⟩ := cells8 x1_1
      have _ := fz x1_1
      have _ := ltb x1_1
      have X1_1 := hid x1_1; clear x1_1
      have G1 := hid (hg1)
      clear hg1
      go_wp2_with fail
      refine (in_t _ _ _ _ h2.out).mono ?_
      rintro e w2 ⟨rfl, hg2⟩
      have x2_1 := hg2.keep X1_1.out
      obtain ⟨_, _, _, _, _, _, _, _⟩ := cells8 x2_1
      have _ := fz x2_1
      have _ := ltb x2_1
      have X2_1 := hid x2_1; clear x2_1
      have G2 := hid (G1.out.trans hg2)
      clear hg2
      go_wp2_with fail
      go_loopw [3] (fun u wr => ∃ (k : Nat), u = .int .i64 (k : Int) ∧ k ≤ xs.length ∧ Gr w wr ∧ ∀ (i : Nat) (p q : Int), i < k → xs[i]? = some (p, q) → scE a b i p q = true) (fun u _ => xs.length - (intOf u).toNat)
      case atStart => exact ⟨0, rfl, by omega, G2.out, fun i p q h => by omega⟩
      case round =>
        obtain ⟨k, rfl, hk, g0, hall⟩ := hrel
        have Y1 := hid (g0.keep X1.out); have HX := hid (X.out.keep g0)
        have GW := hid g0; have HALL := hid hall
        clear g0 hall
        by_cases hlt : k < xs.length
        · obtain ⟨⟨p, q⟩, hpq⟩ : ∃ pq, xs[k]? = some pq := ⟨xs[k], List.getElem?_eq_getElem _⟩
          obtain ⟨ad, rfl, c1, c2⟩ := HX.out k p q hpq
          have HPQ := hid hpq; clear hpq
          cases hx : okB p q with
          | false =>
            have e : allE a b 0 xs = false := allE_no HPQ.out (by unfold scE; rw [hx]; rfl)
            have HX2 := hid hx
            clear hx
            obtain ⟨_, _, _, _, _, _, _, _⟩ := cells8 Y1.out
            have _ := fz Y1.out
            have _ := ltb Y1.out
            go_wp2_with fail
            refine wp_reg0 23 (by kernel_rfl) (by kernel_rfl) ?_
            apply Exists.intro
            refine ⟨fun wb hb => ?_, ?_⟩
            · obtain ⟨_, _, _, _, _, _, _, _⟩ := hb.at8 (((Gr.refl _).al _).keep Y1.out)
              obtain ⟨_, _⟩ := hb.at2 (alloc1 (Gr.refl _)).1
              simp only [headOps, List.contains, List.elem, reduceIte, Bool.false_eq_true]
              repeat (first | go_big_quiet_step (first | (go_at_call 85; exact Calls.of_gr (sok_f _ _ _ HX2.out))) | quiet_step (fail))
              exact wpQuiet_nil rfl
            intro w1 hg1
            obtain ⟨x1_0, hz1, g1⟩ := alloc1 hg1
            have x1_1 := g1.keep Y1.out
            obtain ⟨_, _, _, _, _, _, _, _⟩ := cells8 x1_1
            have _ := fz x1_1
            have _ := ltb x1_1
            obtain ⟨_, _⟩ := cells2 x1_0
            have _ := fz x1_0
            have _ := ltb x1_0
            have X1_1 := hid x1_1; clear x1_1
            have X1_0 := hid x1_0; clear x1_0
            have G1 := hid (GW.out.trans g1)
            clear hg1 g1
            go_wp2
            go_ret
            exact ⟨ret_bool (by rw [← HR.out, e]; simp), G1.out⟩
          | true =>
            obtain ⟨q0, q1, q2, q3, q4, q5⟩ := quarter_bd ho.out hx
            obtain ⟨_, _, d3, d4⟩ := okB_bd hx
            have HA := hid fun w => (abs_any p w (by omega) (by omega))
            have hkk : (k : Int) ≤ 60 := by omega
            have ht := hid (ok_whole (t := k) (by omega) (by omega))
            have HX2 := hid hx
            clear hx d3 d4
            cases hq : qtB a b p q with
            | false =>
              have e : allE a b 0 xs = false := allE_no HPQ.out (by unfold scE; rw [HX2.out, hq]; rfl)
              have hq1 : decide (a * q < 4 * absI p * b) = true := by unfold qtB at hq; simp at hq ⊢; exact hq
              unfold absI at *
              clear hq
              obtain ⟨_, _, _, _, _, _, _, _⟩ := cells8 Y1.out
              have _ := fz Y1.out
              have _ := ltb Y1.out
              go_wp2_with fail
              refine wp_reg0 23 (by kernel_rfl) (by kernel_rfl) ?_
              apply Exists.intro
              refine ⟨fun wb hb => ?_, ?_⟩
              · obtain ⟨_, _, _, _, _, _, _, _⟩ := hb.at8 (((Gr.refl _).al _).keep Y1.out)
                obtain ⟨_, _⟩ := hb.at2 (alloc1 (Gr.refl _)).1
                simp only [headOps, List.contains, List.elem, reduceIte, Bool.false_eq_true]
                repeat (first | go_big_quiet_step (first | (go_at_call 85; exact Calls.of_gr (sok_t _ _ _ HX2.out)) | (go_at_call 86; exact Calls.of_same (HA.out _))) | quiet_step (fail))
                exact wpQuiet_nil rfl
              intro w1 hg1
              obtain ⟨x1_0, hz1, g1⟩ := alloc1 hg1
              have x1_1 := g1.keep Y1.out
              obtain ⟨_, _, _, _, _, _, _, _⟩ := cells8 x1_1
              have _ := fz x1_1
              have _ := ltb x1_1
              obtain ⟨_, _⟩ := cells2 x1_0
              have _ := fz x1_0
              have _ := ltb x1_0
              have X1_1 := hid x1_1; clear x1_1
              have X1_0 := hid x1_0; clear x1_0
              have G1 := hid (GW.out.trans g1)
              clear hg1 g1
              go_wp2
              go_ret
              exact ⟨ret_bool (by rw [← HR.out, e]; simp), G1.out⟩
            | true =>
              have hq1 : decide (a * q < 4 * absI p * b) = false := by unfold qtB at hq; simp at hq ⊢; exact hq
              have HQ := hid hq
              clear hq
              cases hm : mkB a b k p q with
              | false =>
                have e : allE a b 0 xs = false := allE_no HPQ.out (by unfold scE; rw [HX2.out, HQ.out, hm]; rfl)
                have HM := hid hm; clear hm
                have HMK := hid fun (w' : World) (Z1 : Hid (w'.heap[j]? = some (.cells #[.int .i64 a, .int .i64 b, .slice (some ad) xs.length c, v3, v4, v5, v6, v7] 41))) (Z : Hid (RdF w' (some ad) xs)) => smark8_no v3 v4 v5 v6 v7 a b (some ad) c k j xs p q w' Z1 Z HPQ.out (by omega) ho.out ht.out HX2.out HM.out
                unfold absI at *
                obtain ⟨_, _, _, _, _, _, _, _⟩ := cells8 Y1.out
                have _ := fz Y1.out
                have _ := ltb Y1.out
                go_wp2_with fail
                refine wp_reg0 23 (by kernel_rfl) (by kernel_rfl) ?_
                apply Exists.intro
                refine ⟨fun wb hb => ?_, ?_⟩
                · obtain ⟨_, _, _, _, _, _, _, _⟩ := hb.at8 (((Gr.refl _).al _).keep Y1.out)
                  obtain ⟨_, _⟩ := hb.at2 (alloc1 (Gr.refl _)).1
                  simp only [headOps, List.contains, List.elem, reduceIte, Bool.false_eq_true]
                  repeat (first | go_big_quiet_step (first | (go_at_call 85; exact Calls.of_gr (sok_t _ _ _ HX2.out)) | (go_at_call 86; exact Calls.of_same (HA.out _))) | quiet_step (fail))
                  exact wpQuiet_nil rfl
                intro w1 hg1
                obtain ⟨x1_0, hz1, g1⟩ := alloc1 hg1
                have x1_1 := g1.keep Y1.out
                obtain ⟨_, _, _, _, _, _, _, _⟩ := cells8 x1_1
                have _ := fz x1_1
                have _ := ltb x1_1
                obtain ⟨_, _⟩ := cells2 x1_0
                have _ := fz x1_0
                have _ := ltb x1_0
                have X1_1 := hid x1_1; clear x1_1
                have X1_0 := hid x1_0; clear x1_0
                have G1 := hid (GW.out.trans g1)
                clear hg1 g1
                go_wp2_with fail
                refine (HMK.out _ (hid X1_1.out) (hid (X.out.keep G1.out))).mono ?_
                rintro e w2 ⟨rfl, hg2⟩
                have x2_1 := hg2.keep X1_1.out
                have x2_2 := hg2.keep X1_0.out
                obtain ⟨_, _, _, _, _, _, _, _⟩ := cells8 x2_1
                have _ := fz x2_1
                have _ := ltb x2_1
                obtain ⟨_, _⟩ := cells2 x2_2
                have _ := fz x2_2
                have _ := ltb x2_2
                have X2_1 := hid x2_1; clear x2_1
                have X2_2 := hid x2_2; clear x2_2
                have G2 := hid (G1.out.trans hg2)
                clear hg2
                go_wp2
                go_ret
                exact ⟨ret_bool (by rw [← HR.out, e]; simp), (G2.out).al _⟩
              | true =>
                have HM := hid hm; clear hm
                have HMK := hid fun (w' : World) (Z1 : Hid (w'.heap[j]? = some (.cells #[.int .i64 a, .int .i64 b, .slice (some ad) xs.length c, v3, v4, v5, v6, v7] 41))) (Z : Hid (RdF w' (some ad) xs)) => smark8_yes v3 v4 v5 v6 v7 a b (some ad) c k j xs p q w' Z1 Z HPQ.out (by omega) ho.out ht.out HX2.out HM.out
                have hqq : qtB a b p q = true := HQ.out
                have HE : Hid (scE a b k p q = true) := hid (by unfold scE; rw [HX2.out, hqq, HM.out]; rfl)
                clear hqq
                unfold absI at *
                obtain ⟨_, _, _, _, _, _, _, _⟩ := cells8 Y1.out
                have _ := fz Y1.out
                have _ := ltb Y1.out
                go_wp2_with fail
                refine wp_reg0 23 (by kernel_rfl) (by kernel_rfl) ?_
                apply Exists.intro
                refine ⟨fun wb hb => ?_, ?_⟩
                · obtain ⟨_, _, _, _, _, _, _, _⟩ := hb.at8 (((Gr.refl _).al _).keep Y1.out)
                  obtain ⟨_, _⟩ := hb.at2 (alloc1 (Gr.refl _)).1
                  simp only [headOps, List.contains, List.elem, reduceIte, Bool.false_eq_true]
                  repeat (first | go_big_quiet_step (first | (go_at_call 85; exact Calls.of_gr (sok_t _ _ _ HX2.out)) | (go_at_call 86; exact Calls.of_same (HA.out _))) | quiet_step (fail))
                  exact wpQuiet_nil rfl
                intro w1 hg1
                obtain ⟨x1_0, hz1, g1⟩ := alloc1 hg1
                have x1_1 := g1.keep Y1.out
                obtain ⟨_, _, _, _, _, _, _, _⟩ := cells8 x1_1
                have _ := fz x1_1
                have _ := ltb x1_1
                obtain ⟨_, _⟩ := cells2 x1_0
                have _ := fz x1_0
                have _ := ltb x1_0
                have X1_1 := hid x1_1; clear x1_1
                have X1_0 := hid x1_0; clear x1_0
                have G1 := hid (GW.out.trans g1)
                clear hg1 g1
                go_wp2_with fail
                refine (HMK.out _ (hid X1_1.out) (hid (X.out.keep G1.out))).mono ?_
                rintro e w2 ⟨rfl, hg2⟩
                have x2_1 := hg2.keep X1_1.out
                have x2_2 := hg2.keep X1_0.out
                obtain ⟨_, _, _, _, _, _, _, _⟩ := cells8 x2_1
                have _ := fz x2_1
                have _ := ltb x2_1
                obtain ⟨_, _⟩ := cells2 x2_2
                have _ := fz x2_2
                have _ := ltb x2_2
                have X2_1 := hid x2_1; clear x2_1
                have X2_2 := hid x2_2; clear x2_2
                have G2 := hid (G1.out.trans hg2)
                clear hg2
                go_wp2_with fail
                refine ⟨⟨k + 1, by simp, by omega, G2.out.al _, fun i p' q' hi hp' => ?_⟩, by simp [intOf]; omega⟩
                by_cases he : i = k
                · subst he
                  have := HPQ.out
                  rw [hp'] at this
                  cases this
                  exact HE.out
                · exact HALL.out i p' q' (by omega) hp'
        · have hke : k = xs.length := by omega
          have e : allE a b 0 xs = true := allE_yes (fun i p q hi hp => HALL.out i p q (by omega) hp)
          obtain ⟨_, _, _, _, _, _, _, _⟩ := cells8 Y1.out
          have _ := fz Y1.out
          have _ := ltb Y1.out
          go_wp2
          go_ret
          exact ⟨ret_bool (by rw [← HR.out, e]; simp), GW.out⟩
set_option maxRecDepth 20000 in
set_option maxHeartbeats 400000 in
theorem sVernAt8 (v0 v1 v2 v5 v6 v7 : Value) (n : Int) (b : Bool) (w : World) (k : Nat) (X1 : Hid (w.heap[k]? = some (.cells #[v0, v1, v2, .int .i64 n, .bool b, v5, v6, v7] 41))) :
    Calls Try.prog 68 #[.pointer (some ⟨k, 3, none⟩)] w fun e w' => e = .returned (.bool (inB n 2 40)) ∧ Gr w w' := by
  go_enter Try.func68, Try.ntmps68
  obtain ⟨_, _, _, _, _, _, _, _⟩ := cells8 X1.out
  have _ := fz X1.out
  have _ := ltb X1.out
  go_wp2_with (go_at_call 84; refine (in_any _ _ _ _).mono ?_; rintro e w1 ⟨rfl, rfl⟩)
  go_ret
  exact ⟨rfl, Gr.refl _⟩
end Go.Proofs.Ytflfjedimcbfeaa
