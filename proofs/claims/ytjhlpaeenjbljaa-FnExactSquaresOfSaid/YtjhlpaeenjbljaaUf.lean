/- RESIDUALS: SquaresOf of the reference and of the program. -/
import Derived.Test.YtjhlpaeenjbljaaUe
namespace Go.Proofs.Ytjhlpaeenjbljaa
open Go.RowKit Go.Sort

theorem mlP_comm (a b c d : Int) : mlP a b c d = mlP c d a b := by unfold mlP; rw [Int.mul_comm a c, Int.mul_comm b d]
theorem mlQ_comm (a b c d : Int) : mlQ a b c d = mlQ c d a b := by unfold mlQ; rw [Int.mul_comm a c, Int.mul_comm b d]
theorem mlB_comm (a b c d : Int) : mlB a b c d = mlB c d a b := by unfold mlB; rw [mlP_comm, mlQ_comm]
def sqM (p q t : Int) : Int := mlP t 1 (mlP p q p q) (mlQ p q p q)
def sqN (p q t : Int) : Int := mlQ t 1 (mlP p q p q) (mlQ p q p q)
def sqB (u v p q t : Int) : Bool := mlB p q p q && (mlB t 1 (mlP p q p q) (mlQ p q p q) && okB (adP u v (sqM p q t) (sqN p q t)) (adQ u v (sqM p q t) (sqN p q t)))
/-- the sum of the squares of k numbers, each as often as it weighs -/
def sqs (zs : List (Int × Int)) (xs : List Obv) : Nat → Option (Int × Int)
  | 0 => some (0, 1)
  | k + 1 => match sqs zs xs k with
    | none => none
    | some (u, v) => if sqB u v (zs.getD k (0, 0)).1 (zs.getD k (0, 0)).2 (xs.getD k zO).t = true then some (adP u v (sqM (zs.getD k (0, 0)).1 (zs.getD k (0, 0)).2 (xs.getD k zO).t) (sqN (zs.getD k (0, 0)).1 (zs.getD k (0, 0)).2 (xs.getD k zO).t), adQ u v (sqM (zs.getD k (0, 0)).1 (zs.getD k (0, 0)).2 (xs.getD k zO).t) (sqN (zs.getD k (0, 0)).1 (zs.getD k (0, 0)).2 (xs.getD k zO).t)) else none
theorem sqs_t {zs : List (Int × Int)} {xs : List Obv} {k : Nat} {u v p q : Int} {x : Obv} (h : sqs zs xs k = some (u, v)) (hz : zs[k]? = some (p, q)) (hx : xs[k]? = some x) (hb : sqB u v p q x.t = true) : sqs zs xs (k + 1) = some (adP u v (sqM p q x.t) (sqN p q x.t), adQ u v (sqM p q x.t) (sqN p q x.t)) := by
  simp [sqs, h, List.getD_eq_getElem?_getD, hz, hx, hb]
theorem sqs_f {zs : List (Int × Int)} {xs : List Obv} {k : Nat} {u v p q : Int} {x : Obv} (h : sqs zs xs k = some (u, v)) (hz : zs[k]? = some (p, q)) (hx : xs[k]? = some x) (hb : sqB u v p q x.t = false) : sqs zs xs (k + 1) = none := by
  simp [sqs, h, List.getD_eq_getElem?_getD, hz, hx, hb]
theorem sqs_none {zs : List (Int × Int)} {xs : List Obv} {k : Nat} (h : sqs zs xs k = none) : ∀ m, k ≤ m → sqs zs xs m = none
  | 0, hm => by obtain rfl : k = 0 := by omega
                exact h
  | m + 1, hm => by
    by_cases hk : k = m + 1
    · subst hk; exact h
    · have := sqs_none h m (by omega)
      simp [sqs, this]
theorem sqB_all {u v p q t : Int} (h : sqB u v p q t = true) : mlB p q p q = true ∧ mlB t 1 (mlP p q p q) (mlQ p q p q) = true ∧ okB (adP u v (sqM p q t) (sqN p q t)) (adQ u v (sqM p q t) (sqN p q t)) = true := by
  unfold sqB at h; simpa using h
theorem sqs_ok {zs : List (Int × Int)} {xs : List Obv} : ∀ (k : Nat) (u v : Int), sqs zs xs k = some (u, v) → okB u v = true
  | 0, u, v, h => by
    simp only [sqs, Option.some.injEq, Prod.mk.injEq] at h
    obtain ⟨rfl, rfl⟩ := h
    exact ok01
  | k + 1, u, v, h => by
    cases hr : sqs zs xs k with
    | none => simp [sqs, hr] at h
    | some p =>
      obtain ⟨u', v'⟩ := p
      simp only [sqs, hr] at h
      split at h
      · rename_i hb
        simp only [Option.some.injEq, Prod.mk.injEq] at h
        obtain ⟨rfl, rfl⟩ := h
        exact (sqB_all hb).2.2
      · cases h
def sqV : Option (Int × Int) → Int × Int × Int
  | some (u, v) => (u, v, 0)
  | none => (0, 0, 3)
theorem t_bd {x : Obv} {n : Nat} (h : obB x n = true) : 1 ≤ x.t ∧ x.t ≤ 100 := by
  have := (ob_ok h).2.1
  unfold inB at this
  simpa using this
theorem celw {w : World} {g k : Nat} {xs : List Obv} {x : Obv} (X : RdO w (some ⟨g, 0, none⟩) xs) (h : xs[k]? = some x) : w.cell? ⟨g, k * 9 + 8, none⟩ = some (.int .i64 x.t) := by
  obtain ⟨ad, e, c⟩ := X k x h
  cases e
  rw [add_at] at c
  exact c.blk.2.2.2.2.2.2.2.2
/-! the reference -/
set_option maxRecDepth 20000 in
set_option maxHeartbeats 1000000 in
theorem sSq_no (n : Int) (g c : Nat) (b : Bool) (p q : Int) (xs : List Obv) (B : Option Addr) (d : Nat) (ys : List (Int × Int)) (zs : List (Int × Int)) (C : Int) (w : World) (X : Hid (RdO w (some ⟨g, 0, none⟩) xs)) (Y : Hid (RdF w B ys)) (hC : C ≠ 0)
    (hR : ∀ (w : World), Hid (RdO w (some ⟨g, 0, none⟩) xs) → Hid (RdF w B ys) → Calls Try.prog 24 #[tbl n (some ⟨g, 0, none⟩) xs.length c b p q, .slice B ys.length d] w fun e w' => GivesF w w' e zs C) :
    Calls Try.prog 33 #[tbl n (some ⟨g, 0, none⟩) xs.length c b p q, .slice B ys.length d] w fun e w' => e = .returned (.tuple #[fr 0 0, .int .i64 C]) ∧ Gr w w' := by
  have HR := hid hR
  clear hR
  have hC' : (C == 0) = false := by simpa using hC
  go_enter Try.func33, Try.ntmps33
  go_wp2_with fail
  refine (HR.out _ (hid (X.out.keep (((Gr.refl w).al _).al _))) (hid (Y.out.keep (((Gr.refl w).al _).al _)))).mono ?_
  rintro e w1 ⟨A, k, rfl, own, hg⟩
  have X1 := hid (alloc2 hg).2.1; have G1 := hid (alloc2 hg).2.2.2
  obtain ⟨_, _⟩ := cells2 X1.out
  have _ := fz X1.out
  have _ := ltb X1.out
  clear hg own
  go_wp2_with fail
  refine bodyPost_ret (v := .tuple #[fr 0 0, .int .i64 C]) (by simp [results, Try.results33, go_sem, *]) rfl ⟨rfl, ?_⟩
  exact (G1.out.setCell (by simp) _).setCell (by simp) _
set_option maxRecDepth 20000 in
set_option maxHeartbeats 2000000 in
theorem sSq (n : Nat) (g c : Nat) (b : Bool) (p q : Int) (xs : List Obv) (B : Option Addr) (d : Nat) (ys : List (Int × Int)) (zs : List (Int × Int)) (w : World) (X : Hid (RdO w (some ⟨g, 0, none⟩) xs)) (Y : Hid (RdF w B ys)) (hz : zs.length = xs.length) (hl : xs.length ≤ 24) (hall : allF zs = true) (hob : xs.all (fun x => obB x n) = true)
    (hR : ∀ (w : World), Hid (RdO w (some ⟨g, 0, none⟩) xs) → Hid (RdF w B ys) → Calls Try.prog 24 #[tbl (n : Int) (some ⟨g, 0, none⟩) xs.length c b p q, .slice B ys.length d] w fun e w' => GivesF w w' e zs 0) :
    Calls Try.prog 33 #[tbl (n : Int) (some ⟨g, 0, none⟩) xs.length c b p q, .slice B ys.length d] w fun e w' => e = .returned (.tuple #[fr (sqV (sqs zs xs xs.length)).1 (sqV (sqs zs xs xs.length)).2.1, .int .i64 (sqV (sqs zs xs xs.length)).2.2]) ∧ Gr w w' := by
  have HR := hid hR; have HALL := hid hall; have HOB := hid hob; have HZ := hid hz
  clear hR hall hob hz
  go_enter Try.func33, Try.ntmps33
  go_wp2_with fail
  refine (HR.out _ (hid (X.out.keep (((Gr.refl w).al _).al _))) (hid (Y.out.keep (((Gr.refl w).al _).al _)))).mono ?_
  rintro e w1 ⟨A, k, rfl, own, hg⟩
  rw [HZ.out]
  have X0 := hid (alloc2 hg).1; have X1 := hid (alloc2 hg).2.1; have G1 := hid (alloc2 hg).2.2.2
  have RD := hid (RdF.of_ownF own)
  clear hg own
  go_wp2_with fail
  refine (swhole1 _ _).mono ?_
  rintro e w2 ⟨rfl, hg2⟩
  have Z0 := hid (hg2.keep X0.out); have Z1 := hid (hg2.keep X1.out); have G2 := hid (G1.out.trans hg2); have R2 := hid (RD.out.keep hg2)
  have HZ1 := hid (ltb Z1.out)
  clear hg2
  go_wp2_with fail
  go_loopw [9] (fun U wr => ∃ (k : Nat) (u v : Int), U = .int .i64 (k : Int) ∧ k ≤ xs.length ∧ Gr w2 wr ∧ wr.heap[w2.heap.size]? = some (.cells #[.int .i64 u, .int .i64 v] 24) ∧ sqs zs xs k = some (u, v)) (fun U _ => xs.length - (intOf U).toNat)
  case atStart => exact ⟨0, 0, 1, rfl, by omega, (Gr.refl _).al _, (alloc1 (Gr.refl _)).1, rfl⟩
  case round =>
    obtain ⟨k, u, v, rfl, hk, g0, ys', hs⟩ := hrel
    have GW := hid g0; have YS := hid ys'; have HS := hid hs
    have Y0 := hid (g0.keep Z0.out); have Y1 := hid (g0.keep Z1.out); have GV := hid (G2.out.trans g0)
    have hn1 := HZ1.out
    clear g0 ys' hs
    by_cases hlt : k < xs.length
    · obtain ⟨⟨P, Q⟩, hzk⟩ : ∃ pq, zs[k]? = some pq := ⟨zs[k]'(by have := HZ.out; omega), List.getElem?_eq_getElem _⟩
      obtain ⟨x, hxk⟩ : ∃ x, xs[k]? = some x := ⟨xs[k], List.getElem?_eq_getElem _⟩
      have o0 := allF_get HALL.out hzk
      have hobx := allO_get hxk HOB.out
      obtain ⟨t1, t2⟩ := t_bd hobx
      obtain ⟨ad, rfl, c1, c2⟩ := (R2.out.keep GW.out) k P Q hzk
      obtain ⟨ad1, e1, hcel⟩ := (X.out.keep GV.out) k x hxk
      cases e1
      rw [add_at] at hcel
      have hct := hcel.blk.2.2.2.2.2.2.2.2
      have hgr : g < wr.heap.size := hcel.lt
      have C1 := hid c1; have C2 := hid c2; have CT := hid hct
      have OU := hid (sqs_ok k u v HS.out)
      have HXT := hid fun (w' : World) (Z : RdO w' (some ⟨g, 0, none⟩) xs) => celw Z hxk
      have hT : okB x.t 1 = true := ok_whole (by omega) (by omega)
      cases hb : sqB u v P Q x.t with
      | true =>
        obtain ⟨b1, b2, b3⟩ := sqB_all hb
        have hst := sqs_t HS.out hzk hxk hb
        have m1 := fun w => smulm_t P Q P Q w o0 o0 b1
        have m2 := fun w => smulm_t (mlP P Q P Q) (mlQ P Q P Q) x.t 1 w b1 hT (by rw [mlB_comm]; exact b2)
        have m3 := fun w => sadda_t u v (sqM P Q x.t) (sqN P Q x.t) w OU.out b2 b3
        rw [mlP_comm _ _ x.t, mlQ_comm _ _ x.t] at m2
        unfold sqM sqN at hst m3
        generalize x.t = T at *
        generalize mlP P Q P Q = M1 at *
        generalize mlQ P Q P Q = N1 at *
        generalize mlP T 1 M1 N1 = M2 at *
        generalize mlQ T 1 M1 N1 = N2 at *
        generalize adP u v M2 N2 = U3 at *
        generalize adQ u v M2 N2 = V3 at *
        have H1 := hid m1; have H2 := hid m2; have H3 := hid m3; have HST := hid hst
        clear m1 m2 m3 hst hb b1 b2 b3 o0 hobx hzk hxk hcel hct c1 c2 hT
        obtain ⟨_, _, _, _, _⟩ := cells5 Y0.out
        have _ := fz Y0.out
        have _ := ltb Y0.out
        obtain ⟨_, _⟩ := cells2 Y1.out
        have _ := fz Y1.out
        have _ := ltb Y1.out
        obtain ⟨_, _⟩ := cells2 YS.out
        have _ := fz YS.out
        have _ := ltb YS.out
        go_wp2_with fail
        refine wp_reg1s #[.int .i64 0, .int .i64 0] 14 12 10 13 43 (by kernel_rfl) (by kernel_rfl) rfl rfl (by simp) rfl rfl (by decide) (fun _ _ => by kernel_rfl) (by kernel_rfl) ?_
        apply Exists.intro; apply Exists.intro
        refine ⟨fun wb hb => ?_, ?_⟩
        · obtain ⟨_, _, _, _, _⟩ := hb.at5 Y0.out
          obtain ⟨_, _⟩ := hb.at2 Y1.out
          obtain ⟨_, _⟩ := hb.at2 YS.out
          have _ := hb.atF C1.out; have _ := hb.atF C2.out
          simp only [headOps, List.contains, List.elem, Nat.reduceAdd, Nat.reduceBEq, reduceIte, Bool.false_eq_true, dumOp]
          repeat (first | go_big_quiet_step (first | (go_at_call 63; exact Calls.of_gr (H1.out _))) | quiet_step (fail))
          exact wpQuiet_nil rfl
        refine ⟨rfl, ⟨rfl, by simp [Value.oneCell']⟩, fun w6 b6 hg6 _ xb6 => ?_⟩
        have x6_1 := hg6.keep Y0.out
        have x6_2 := hg6.keep Y1.out
        have x6_3 := hg6.keep YS.out
        obtain ⟨_, _, _, _, _⟩ := cells5 x6_1
        have _ := fz x6_1
        have _ := ltb x6_1
        obtain ⟨_, _⟩ := cells2 x6_2
        have _ := fz x6_2
        have _ := ltb x6_2
        obtain ⟨_, _⟩ := cells2 x6_3
        have _ := fz x6_3
        have _ := ltb x6_3
        obtain ⟨_, _⟩ := cells2 xb6
        have _ := fz xb6
        have _ := ltb xb6
        have X6_1 := hid x6_1; clear x6_1
        have X6_2 := hid x6_2; clear x6_2
        have X6_3 := hid x6_3; clear x6_3
        have Xb6 := hid xb6; clear xb6
        have G6 := hid (GW.out.trans hg6)
        clear hg6
        have CT1 := hid (HXT.out _ (X.out.keep (G2.out.trans G6.out)))
        go_wp2_with fail
        refine wp_reg1s #[.int .i64 0, .int .i64 0] 14 12 12 13 59 (by kernel_rfl) (by kernel_rfl) rfl rfl (by simp) rfl rfl (by decide) (fun _ _ => by kernel_rfl) (by kernel_rfl) ?_
        apply Exists.intro; apply Exists.intro
        refine ⟨fun wb hb => ?_, ?_⟩
        · obtain ⟨_, _, _, _, _⟩ := hb.at5 X6_1.out
          obtain ⟨_, _⟩ := hb.at2 X6_2.out
          obtain ⟨_, _⟩ := hb.at2 X6_3.out
          obtain ⟨_, _⟩ := hb.at2 Xb6.out
          have _ := hb.atF CT1.out
          simp only [headOps, List.contains, List.elem, Nat.reduceAdd, Nat.reduceBEq, reduceIte, Bool.false_eq_true, dumOp]
          repeat (first | go_big_quiet_step (first | (go_at_call 53; exact Calls.of_gr (swhole1 _ _)) | (go_at_call 63; exact Calls.of_gr (H2.out _))) | quiet_step (fail))
          exact wpQuiet_nil rfl
        refine ⟨rfl, ⟨rfl, by simp [Value.oneCell']⟩, fun w7 b7 hg7 _ xb7 => ?_⟩
        have x7_1 := hg7.keep X6_1.out
        have x7_2 := hg7.keep X6_2.out
        have x7_3 := hg7.keep X6_3.out
        have x7_4 := hg7.keep Xb6.out
        obtain ⟨_, _, _, _, _⟩ := cells5 x7_1
        have _ := fz x7_1
        have _ := ltb x7_1
        obtain ⟨_, _⟩ := cells2 x7_2
        have _ := fz x7_2
        have _ := ltb x7_2
        obtain ⟨_, _⟩ := cells2 x7_3
        have _ := fz x7_3
        have _ := ltb x7_3
        obtain ⟨_, _⟩ := cells2 x7_4
        have _ := fz x7_4
        have _ := ltb x7_4
        obtain ⟨_, _⟩ := cells2 xb7
        have _ := fz xb7
        have _ := ltb xb7
        have X7_1 := hid x7_1; clear x7_1
        have X7_2 := hid x7_2; clear x7_2
        have X7_3 := hid x7_3; clear x7_3
        have X7_4 := hid x7_4; clear x7_4
        have Xb7 := hid xb7; clear xb7
        have G7 := hid (G6.out.trans hg7)
        clear hg7
        go_wp2_with fail
        refine (H3.out _).mono ?_
        rintro e w8 ⟨rfl, hg8⟩
        have x8_1 := hg8.keep X7_1.out
        have x8_2 := hg8.keep X7_2.out
        have x8_3 := hg8.keep X7_3.out
        have x8_4 := hg8.keep X7_4.out
        have x8_5 := hg8.keep Xb7.out
        obtain ⟨_, _, _, _, _⟩ := cells5 x8_1
        have _ := fz x8_1
        have _ := ltb x8_1
        obtain ⟨_, _⟩ := cells2 x8_2
        have _ := fz x8_2
        have _ := ltb x8_2
        obtain ⟨_, _⟩ := cells2 x8_3
        have _ := fz x8_3
        have _ := ltb x8_3
        obtain ⟨_, _⟩ := cells2 x8_4
        have _ := fz x8_4
        have _ := ltb x8_4
        obtain ⟨_, _⟩ := cells2 x8_5
        have _ := fz x8_5
        have _ := ltb x8_5
        have X8_1 := hid x8_1; clear x8_1
        have X8_2 := hid x8_2; clear x8_2
        have X8_3 := hid x8_3; clear x8_3
        have X8_4 := hid x8_4; clear x8_4
        have X8_5 := hid x8_5; clear x8_5
        have G8 := hid (G7.out.trans hg8)
        clear hg8
        go_wp2_with fail
        exact ⟨⟨k + 1, U3, V3, by simp, by omega, ((G8.out.setCell (Nat.le_refl _) _).setCell (Nat.le_refl _) _).al _, ((Gr.refl _).al _).keep (set2_new X8_3.out), HST.out⟩, by simp [intOf]; omega⟩
      | false =>
        have HST := hid (sqs_none (sqs_f HS.out hzk hxk hb) xs.length (by omega))
        cases b1 : mlB P Q P Q with
        | false =>
          have m1 := fun w => smulm_f P Q P Q w o0 o0 b1
          have H1 := hid m1
          clear m1 hb b1 o0 hobx hzk hxk hcel hct c1 c2 hT
          obtain ⟨_, _, _, _, _⟩ := cells5 Y0.out
          have _ := fz Y0.out
          have _ := ltb Y0.out
          obtain ⟨_, _⟩ := cells2 Y1.out
          have _ := fz Y1.out
          have _ := ltb Y1.out
          obtain ⟨_, _⟩ := cells2 YS.out
          have _ := fz YS.out
          have _ := ltb YS.out
          go_wp2_with fail
          refine wp_reg1s #[.int .i64 0, .int .i64 0] 14 12 10 13 43 (by kernel_rfl) (by kernel_rfl) rfl rfl (by simp) rfl rfl (by decide) (fun _ _ => by kernel_rfl) (by kernel_rfl) ?_
          apply Exists.intro; apply Exists.intro
          refine ⟨fun wb hb => ?_, ?_⟩
          · obtain ⟨_, _, _, _, _⟩ := hb.at5 Y0.out
            obtain ⟨_, _⟩ := hb.at2 Y1.out
            obtain ⟨_, _⟩ := hb.at2 YS.out
            have _ := hb.atF C1.out; have _ := hb.atF C2.out
            simp only [headOps, List.contains, List.elem, Nat.reduceAdd, Nat.reduceBEq, reduceIte, Bool.false_eq_true, dumOp]
            repeat (first | go_big_quiet_step (first | (go_at_call 63; exact Calls.of_gr (H1.out _))) | quiet_step (fail))
            exact wpQuiet_nil rfl
          refine ⟨rfl, ⟨rfl, by simp [Value.oneCell']⟩, fun w6 b6 hg6 _ xb6 => ?_⟩
          have x6_1 := hg6.keep Y0.out
          have x6_2 := hg6.keep Y1.out
          have x6_3 := hg6.keep YS.out
          obtain ⟨_, _, _, _, _⟩ := cells5 x6_1
          have _ := fz x6_1
          have _ := ltb x6_1
          obtain ⟨_, _⟩ := cells2 x6_2
          have _ := fz x6_2
          have _ := ltb x6_2
          obtain ⟨_, _⟩ := cells2 x6_3
          have _ := fz x6_3
          have _ := ltb x6_3
          obtain ⟨_, _⟩ := cells2 xb6
          have _ := fz xb6
          have _ := ltb xb6
          have X6_1 := hid x6_1; clear x6_1
          have X6_2 := hid x6_2; clear x6_2
          have X6_3 := hid x6_3; clear x6_3
          have Xb6 := hid xb6; clear xb6
          have G6 := hid (GW.out.trans hg6)
          clear hg6
          go_wp2_with fail
          refine bodyPost_ret (v := .tuple #[fr 0 0, .int .i64 3]) (by simp [results, Try.results33, go_sem, *]) rfl ⟨by rw [HST.out]; rfl, ?_⟩
          exact ((G2.out.trans G6.out).setCell (by simp) _).setCell (by simp) _
        | true =>
        cases b2 : mlB x.t 1 (mlP P Q P Q) (mlQ P Q P Q) with
        | false =>
          have m1 := fun w => smulm_t P Q P Q w o0 o0 b1
          have m2 := fun w => smulm_f (mlP P Q P Q) (mlQ P Q P Q) x.t 1 w b1 hT (by rw [mlB_comm]; exact b2)
          generalize x.t = T at *
          generalize mlP P Q P Q = M1 at *
          generalize mlQ P Q P Q = N1 at *
          have H1 := hid m1; have H2 := hid m2
          clear m1 m2 hb b1 b2 o0 hobx hzk hxk hcel hct c1 c2 hT
          obtain ⟨_, _, _, _, _⟩ := cells5 Y0.out
          have _ := fz Y0.out
          have _ := ltb Y0.out
          obtain ⟨_, _⟩ := cells2 Y1.out
          have _ := fz Y1.out
          have _ := ltb Y1.out
          obtain ⟨_, _⟩ := cells2 YS.out
          have _ := fz YS.out
          have _ := ltb YS.out
          go_wp2_with fail
          refine wp_reg1s #[.int .i64 0, .int .i64 0] 14 12 10 13 43 (by kernel_rfl) (by kernel_rfl) rfl rfl (by simp) rfl rfl (by decide) (fun _ _ => by kernel_rfl) (by kernel_rfl) ?_
          apply Exists.intro; apply Exists.intro
          refine ⟨fun wb hb => ?_, ?_⟩
          · obtain ⟨_, _, _, _, _⟩ := hb.at5 Y0.out
            obtain ⟨_, _⟩ := hb.at2 Y1.out
            obtain ⟨_, _⟩ := hb.at2 YS.out
            have _ := hb.atF C1.out; have _ := hb.atF C2.out
            simp only [headOps, List.contains, List.elem, Nat.reduceAdd, Nat.reduceBEq, reduceIte, Bool.false_eq_true, dumOp]
            repeat (first | go_big_quiet_step (first | (go_at_call 63; exact Calls.of_gr (H1.out _))) | quiet_step (fail))
            exact wpQuiet_nil rfl
          refine ⟨rfl, ⟨rfl, by simp [Value.oneCell']⟩, fun w6 b6 hg6 _ xb6 => ?_⟩
          have x6_1 := hg6.keep Y0.out
          have x6_2 := hg6.keep Y1.out
          have x6_3 := hg6.keep YS.out
          obtain ⟨_, _, _, _, _⟩ := cells5 x6_1
          have _ := fz x6_1
          have _ := ltb x6_1
          obtain ⟨_, _⟩ := cells2 x6_2
          have _ := fz x6_2
          have _ := ltb x6_2
          obtain ⟨_, _⟩ := cells2 x6_3
          have _ := fz x6_3
          have _ := ltb x6_3
          obtain ⟨_, _⟩ := cells2 xb6
          have _ := fz xb6
          have _ := ltb xb6
          have X6_1 := hid x6_1; clear x6_1
          have X6_2 := hid x6_2; clear x6_2
          have X6_3 := hid x6_3; clear x6_3
          have Xb6 := hid xb6; clear xb6
          have G6 := hid (GW.out.trans hg6)
          clear hg6
          have CT1 := hid (HXT.out _ (X.out.keep (G2.out.trans G6.out)))
          go_wp2_with fail
          refine wp_reg1s #[.int .i64 0, .int .i64 0] 14 12 12 13 59 (by kernel_rfl) (by kernel_rfl) rfl rfl (by simp) rfl rfl (by decide) (fun _ _ => by kernel_rfl) (by kernel_rfl) ?_
          apply Exists.intro; apply Exists.intro
          refine ⟨fun wb hb => ?_, ?_⟩
          · obtain ⟨_, _, _, _, _⟩ := hb.at5 X6_1.out
            obtain ⟨_, _⟩ := hb.at2 X6_2.out
            obtain ⟨_, _⟩ := hb.at2 X6_3.out
            obtain ⟨_, _⟩ := hb.at2 Xb6.out
            have _ := hb.atF CT1.out
            simp only [headOps, List.contains, List.elem, Nat.reduceAdd, Nat.reduceBEq, reduceIte, Bool.false_eq_true, dumOp]
            repeat (first | go_big_quiet_step (first | (go_at_call 53; exact Calls.of_gr (swhole1 _ _)) | (go_at_call 63; exact Calls.of_gr (H2.out _))) | quiet_step (fail))
            exact wpQuiet_nil rfl
          refine ⟨rfl, ⟨rfl, by simp [Value.oneCell']⟩, fun w7 b7 hg7 _ xb7 => ?_⟩
          have x7_1 := hg7.keep X6_1.out
          have x7_2 := hg7.keep X6_2.out
          have x7_3 := hg7.keep X6_3.out
          have x7_4 := hg7.keep Xb6.out
          obtain ⟨_, _, _, _, _⟩ := cells5 x7_1
          have _ := fz x7_1
          have _ := ltb x7_1
          obtain ⟨_, _⟩ := cells2 x7_2
          have _ := fz x7_2
          have _ := ltb x7_2
          obtain ⟨_, _⟩ := cells2 x7_3
          have _ := fz x7_3
          have _ := ltb x7_3
          obtain ⟨_, _⟩ := cells2 x7_4
          have _ := fz x7_4
          have _ := ltb x7_4
          obtain ⟨_, _⟩ := cells2 xb7
          have _ := fz xb7
          have _ := ltb xb7
          have X7_1 := hid x7_1; clear x7_1
          have X7_2 := hid x7_2; clear x7_2
          have X7_3 := hid x7_3; clear x7_3
          have X7_4 := hid x7_4; clear x7_4
          have Xb7 := hid xb7; clear xb7
          have G7 := hid (G6.out.trans hg7)
          clear hg7
          go_wp2_with fail
          refine bodyPost_ret (v := .tuple #[fr 0 0, .int .i64 3]) (by simp [results, Try.results33, go_sem, *]) rfl ⟨by rw [HST.out]; rfl, ?_⟩
          exact ((G2.out.trans G7.out).setCell (by simp) _).setCell (by simp) _
        | true =>
          have b3 : okB (adP u v (sqM P Q x.t) (sqN P Q x.t)) (adQ u v (sqM P Q x.t) (sqN P Q x.t)) = false := by unfold sqB at hb; rw [b1, b2] at hb; simpa using hb
          have m1 := fun w => smulm_t P Q P Q w o0 o0 b1
          have m2 := fun w => smulm_t (mlP P Q P Q) (mlQ P Q P Q) x.t 1 w b1 hT (by rw [mlB_comm]; exact b2)
          have m3 := fun w => sadda_f u v (sqM P Q x.t) (sqN P Q x.t) w OU.out b2 b3
          rw [mlP_comm _ _ x.t, mlQ_comm _ _ x.t] at m2
          unfold sqM sqN at m3
          generalize x.t = T at *
          generalize mlP P Q P Q = M1 at *
          generalize mlQ P Q P Q = N1 at *
          generalize mlP T 1 M1 N1 = M2 at *
          generalize mlQ T 1 M1 N1 = N2 at *
          have H1 := hid m1; have H2 := hid m2; have H3 := hid m3
          clear m1 m2 m3 hb b1 b2 b3 o0 hobx hzk hxk hcel hct c1 c2 hT
          obtain ⟨_, _, _, _, _⟩ := cells5 Y0.out
          have _ := fz Y0.out
          have _ := ltb Y0.out
          obtain ⟨_, _⟩ := cells2 Y1.out
          have _ := fz Y1.out
          have _ := ltb Y1.out
          obtain ⟨_, _⟩ := cells2 YS.out
          have _ := fz YS.out
          have _ := ltb YS.out
          go_wp2_with fail
          refine wp_reg1s #[.int .i64 0, .int .i64 0] 14 12 10 13 43 (by kernel_rfl) (by kernel_rfl) rfl rfl (by simp) rfl rfl (by decide) (fun _ _ => by kernel_rfl) (by kernel_rfl) ?_
          apply Exists.intro; apply Exists.intro
          refine ⟨fun wb hb => ?_, ?_⟩
          · obtain ⟨_, _, _, _, _⟩ := hb.at5 Y0.out
            obtain ⟨_, _⟩ := hb.at2 Y1.out
            obtain ⟨_, _⟩ := hb.at2 YS.out
            have _ := hb.atF C1.out; have _ := hb.atF C2.out
            simp only [headOps, List.contains, List.elem, Nat.reduceAdd, Nat.reduceBEq, reduceIte, Bool.false_eq_true, dumOp]
            repeat (first | go_big_quiet_step (first | (go_at_call 63; exact Calls.of_gr (H1.out _))) | quiet_step (fail))
            exact wpQuiet_nil rfl
          refine ⟨rfl, ⟨rfl, by simp [Value.oneCell']⟩, fun w6 b6 hg6 _ xb6 => ?_⟩
          have x6_1 := hg6.keep Y0.out
          have x6_2 := hg6.keep Y1.out
          have x6_3 := hg6.keep YS.out
          obtain ⟨_, _, _, _, _⟩ := cells5 x6_1
          have _ := fz x6_1
          have _ := ltb x6_1
          obtain ⟨_, _⟩ := cells2 x6_2
          have _ := fz x6_2
          have _ := ltb x6_2
          obtain ⟨_, _⟩ := cells2 x6_3
          have _ := fz x6_3
          have _ := ltb x6_3
          obtain ⟨_, _⟩ := cells2 xb6
          have _ := fz xb6
          have _ := ltb xb6
          have X6_1 := hid x6_1; clear x6_1
          have X6_2 := hid x6_2; clear x6_2
          have X6_3 := hid x6_3; clear x6_3
          have Xb6 := hid xb6; clear xb6
          have G6 := hid (GW.out.trans hg6)
          clear hg6
          have CT1 := hid (HXT.out _ (X.out.keep (G2.out.trans G6.out)))
          go_wp2_with fail
          refine wp_reg1s #[.int .i64 0, .int .i64 0] 14 12 12 13 59 (by kernel_rfl) (by kernel_rfl) rfl rfl (by simp) rfl rfl (by decide) (fun _ _ => by kernel_rfl) (by kernel_rfl) ?_
          apply Exists.intro; apply Exists.intro
          refine ⟨fun wb hb => ?_, ?_⟩
          · obtain ⟨_, _, _, _, _⟩ := hb.at5 X6_1.out
            obtain ⟨_, _⟩ := hb.at2 X6_2.out
            obtain ⟨_, _⟩ := hb.at2 X6_3.out
            obtain ⟨_, _⟩ := hb.at2 Xb6.out
            have _ := hb.atF CT1.out
            simp only [headOps, List.contains, List.elem, Nat.reduceAdd, Nat.reduceBEq, reduceIte, Bool.false_eq_true, dumOp]
            repeat (first | go_big_quiet_step (first | (go_at_call 53; exact Calls.of_gr (swhole1 _ _)) | (go_at_call 63; exact Calls.of_gr (H2.out _))) | quiet_step (fail))
            exact wpQuiet_nil rfl
          refine ⟨rfl, ⟨rfl, by simp [Value.oneCell']⟩, fun w7 b7 hg7 _ xb7 => ?_⟩
          have x7_1 := hg7.keep X6_1.out
          have x7_2 := hg7.keep X6_2.out
          have x7_3 := hg7.keep X6_3.out
          have x7_4 := hg7.keep Xb6.out
          obtain ⟨_, _, _, _, _⟩ := cells5 x7_1
          have _ := fz x7_1
          have _ := ltb x7_1
          obtain ⟨_, _⟩ := cells2 x7_2
          have _ := fz x7_2
          have _ := ltb x7_2
          obtain ⟨_, _⟩ := cells2 x7_3
          have _ := fz x7_3
          have _ := ltb x7_3
          obtain ⟨_, _⟩ := cells2 x7_4
          have _ := fz x7_4
          have _ := ltb x7_4
          obtain ⟨_, _⟩ := cells2 xb7
          have _ := fz xb7
          have _ := ltb xb7
          have X7_1 := hid x7_1; clear x7_1
          have X7_2 := hid x7_2; clear x7_2
          have X7_3 := hid x7_3; clear x7_3
          have X7_4 := hid x7_4; clear x7_4
          have Xb7 := hid xb7; clear xb7
          have G7 := hid (G6.out.trans hg7)
          clear hg7
          go_wp2_with fail
          refine (H3.out _).mono ?_
          rintro e w8 ⟨rfl, hg8⟩
          have x8_1 := hg8.keep X7_1.out
          have x8_2 := hg8.keep X7_2.out
          have x8_3 := hg8.keep X7_3.out
          have x8_4 := hg8.keep X7_4.out
          have x8_5 := hg8.keep Xb7.out
          obtain ⟨_, _, _, _, _⟩ := cells5 x8_1
          have _ := fz x8_1
          have _ := ltb x8_1
          obtain ⟨_, _⟩ := cells2 x8_2
          have _ := fz x8_2
          have _ := ltb x8_2
          obtain ⟨_, _⟩ := cells2 x8_3
          have _ := fz x8_3
          have _ := ltb x8_3
          obtain ⟨_, _⟩ := cells2 x8_4
          have _ := fz x8_4
          have _ := ltb x8_4
          obtain ⟨_, _⟩ := cells2 x8_5
          have _ := fz x8_5
          have _ := ltb x8_5
          have X8_1 := hid x8_1; clear x8_1
          have X8_2 := hid x8_2; clear x8_2
          have X8_3 := hid x8_3; clear x8_3
          have X8_4 := hid x8_4; clear x8_4
          have X8_5 := hid x8_5; clear x8_5
          have G8 := hid (G7.out.trans hg8)
          clear hg8
          go_wp2_with fail
          refine bodyPost_ret (v := .tuple #[fr 0 0, .int .i64 3]) (by simp [results, Try.results33, go_sem, *]) rfl ⟨by rw [HST.out]; rfl, ?_⟩
          exact (((G2.out.trans G8.out).setCell (by simp) _).setCell (by simp) _).al _
    · have hke : k = xs.length := by omega
      subst hke
      obtain ⟨_, _, _, _, _⟩ := cells5 Y0.out
      have _ := fz Y0.out
      have _ := ltb Y0.out
      obtain ⟨_, _⟩ := cells2 Y1.out
      have _ := fz Y1.out
      have _ := ltb Y1.out
      obtain ⟨_, _⟩ := cells2 YS.out
      have _ := fz YS.out
      have _ := ltb YS.out
      go_wp2_with fail
      refine bodyPost_ret (v := .tuple #[fr u v, .int .i64 0]) (by simp [results, Try.results33, go_sem, *]) rfl ⟨by rw [HS.out]; rfl, ?_⟩
      exact (GV.out.setCell (by simp) _).setCell (by simp) _
theorem timesm_t (a b c d : Int) (w : World) (h1 : okB a b = true) (h2 : okB c d = true) (h : mlB a b c d = true) :
    Calls Try.prog 71 #[fr a b, fr c d] w fun e w' => e = .returned (fr (mlP a b c d) (mlQ a b c d)) ∧ Gr w w' := times_yes a b c d w h1 h2 h
theorem timesm_f (a b c d : Int) (w : World) (h1 : okB a b = true) (h2 : okB c d = true) (h : mlB a b c d = false) :
    Calls Try.prog 71 #[fr a b, fr c d] w fun e w' => (∃ x y, e = .panicked [{ v := .iface 138 (fr x y), recovered := false }]) ∧ Gr w w' := times_no a b c d w h1 h2 h
/-! the program -/
set_option maxRecDepth 20000 in
set_option maxHeartbeats 2000000 in
theorem cSq (g : Nat) (B : Option Addr) (c d k1 k2 : Nat) (b : Bool) (p q : Int) (xs : List Obv) (ys : List (Int × Int)) (w : World) (X1 : Hid (w.heap[k1]? = some (.cells #[.int .i64 (ys.length : Int), .slice (some ⟨g, 0, none⟩) xs.length c, .bool b, .int .i64 p, .int .i64 q] 50))) (X2 : Hid (w.heap[k2]? = some (.cells #[.slice B ys.length d] 25))) (X : Hid (RdO w (some ⟨g, 0, none⟩) xs)) (Y : Hid (RdF w B ys)) (hl : xs.length ≤ 24) (hl6 : ys.length ≤ 6) (hob : xs.all (fun x => obB x ys.length) = true) (hall : allF ys = true) :
    Calls Try.prog 84 #[.pointer (some ⟨k1, 0, none⟩), .pointer (some ⟨k2, 0, none⟩)] w fun e w' => ((RsdAll xs ys ∧ ∃ u v, sqs (rsdL xs ys) xs xs.length = some (u, v) ∧ e = .returned (fr u v)) ∨ ((¬ RsdAll xs ys ∨ sqs (rsdL xs ys) xs xs.length = none) ∧ ∃ x y, e = .panicked [{ v := .iface 138 (fr x y), recovered := false }])) ∧ Gr w w' := by
  have HR := hid fun (w : World) (X : Hid (RdO w (some ⟨g, 0, none⟩) xs)) (Y : Hid (RdF w B ys)) => iresids (some ⟨g, 0, none⟩) B c d b p q xs ys w X Y hl hl6 hob hall
  have HOB := hid hob
  clear hob hall
  go_enter Try.func84, Try.ntmps84
  obtain ⟨_, _, _, _, _⟩ := cells5 X1.out
  have _ := fz X1.out
  have _ := ltb X1.out
  have _ := cells1 X2.out
  have _ := fz X2.out
  have _ := ltb X2.out
  go_wp2_with fail
  refine (fit_ok 0 1 _ gt01 (by decide)).mono ?_
  rintro e w1 ⟨rfl, hg1⟩
  obtain ⟨x1_0, hz1, g1⟩ := alloc1 hg1
  have x1_1 := g1.keep X1.out
  have x1_2 := g1.keep X2.out
  obtain ⟨_, _⟩ := cells2 x1_0
  have _ := fz x1_0
  have _ := ltb x1_0
  obtain ⟨_, _, _, _, _⟩ := cells5 x1_1
  have _ := fz x1_1
  have _ := ltb x1_1
  have _ := cells1 x1_2
  have _ := fz x1_2
  have _ := ltb x1_2
  have X1_0 := hid x1_0; clear x1_0
  have X1_1 := hid x1_1; clear x1_1
  have X1_2 := hid x1_2; clear x1_2
  have G1 := hid (g1)
  clear hg1 g1
  go_wp2_with fail
  refine (HR.out _ (hid (X.out.keep (G1.out.al _))) (hid (Y.out.keep (G1.out.al _)))).mono ?_
  rintro e w2 ⟨⟨hv, A', c', rfl, own⟩ | ⟨hv, x, y, rfl⟩, hg⟩
  · have HV := hid hv; have HZ := hid (rsdL_len xs ys); have HALL := hid (rsdL_all hv HOB.out)
    obtain ⟨zs, hzs⟩ : ∃ zs, rsdL xs ys = zs := ⟨_, rfl⟩
    rw [hzs] at own HZ HALL
    have HZS := hid hzs; clear hzs
    have RD := hid (RdF.of_ownF own)
    have HNE := hid (fun (ad : Addr) (h : A' = some ad) => (show ad.block ≠ w1.heap.size from by have := (own_lt own ad h).1; simp at this; omega))
    have V2 := hid (hg.keep (alloc1 (w := w1) (A := .cells #[.int .i64 0, .int .i64 1] 24) (Gr.refl _)).1)
    have Z0 := hid (hg.keep (((Gr.refl w1).al (.cells #[.int .i64 0, .int .i64 1] 24)).keep X1_0.out))
    have Z1 := hid (hg.keep (((Gr.refl w1).al (.cells #[.int .i64 0, .int .i64 1] 24)).keep X1_1.out))
    have G2 := hid ((G1.out.al (.cells #[.int .i64 0, .int .i64 1] 24)).trans hg)
    have HK1 := hid (ltb X1.out); have HZ1 := hid (show w.heap.size < w1.heap.size from ltb X1_0.out)
    have HW12 := hid (ltb V2.out)
    clear hg own hv
    go_wp2_with fail
    go_loopw [11] (fun U wr => ∃ (k : Nat) (u v : Int), U = .int .i64 (k : Int) ∧ k ≤ xs.length ∧ Gr w wr ∧ RdF wr A' zs ∧ wr.heap[w.heap.size]? = some (.cells #[.int .i64 0, .int .i64 0] 24) ∧ wr.heap[k1]? = some (.cells #[.int .i64 (ys.length : Int), .slice (some ⟨g, 0, none⟩) xs.length c, .bool b, .int .i64 p, .int .i64 q] 50) ∧ wr.heap[w1.heap.size]? = some (.cells #[.int .i64 u, .int .i64 v] 24) ∧ sqs zs xs k = some (u, v)) (fun U _ => xs.length - (intOf U).toNat)
    case atStart => exact ⟨0, 0, 1, rfl, by omega, G2.out, RD.out, Z0.out, Z1.out, V2.out, rfl⟩
    case round =>
      obtain ⟨k, u, v, rfl, hk, g0, rd, y0, y1, ys', hs⟩ := hrel
      have GW := hid g0; have RW := hid rd; have YS := hid ys'; have HS := hid hs; have Y0 := hid y0; have Y1 := hid y1
      have hk1 := HK1.out; have hn1 := HZ1.out
      clear g0 rd y0 y1 ys' hs
      by_cases hlt : k < xs.length
      · obtain ⟨⟨P, Q⟩, hzk⟩ : ∃ pq, zs[k]? = some pq := ⟨zs[k]'(by have := HZ.out; omega), List.getElem?_eq_getElem _⟩
        obtain ⟨x, hxk⟩ : ∃ x, xs[k]? = some x := ⟨xs[k], List.getElem?_eq_getElem _⟩
        have o0 := allF_get HALL.out hzk
        obtain ⟨t1, t2⟩ := t_bd (allO_get hxk HOB.out)
        obtain ⟨ad, rfl, c1, c2⟩ := RW.out k P Q hzk
        have hct := celw (X.out.keep GW.out) hxk
        have CT := hid (celw (X.out.keep (GW.out.al (.cells #[.int .i64 P, .int .i64 Q] 24))) hxk)
        have hgr : g < wr.heap.size := World.block_lt_of_cell? _ _ hct
        have OU := hid (sqs_ok k u v HS.out)
        have hT : okB x.t 1 = true := ok_whole (by omega) (by omega)
        clear hct
        cases hb : sqB u v P Q x.t with
        | true =>
          obtain ⟨b1, b2, b3⟩ := sqB_all hb
          have hst := sqs_t HS.out hzk hxk hb
          have m1 := fun w => timesm_t P Q P Q w o0 o0 b1
          have m2 := fun w => itwm_t (mlP P Q P Q) (mlQ P Q P Q) x.t w b1 hT b2
          have m3 := fun w => plusa_t u v (sqM P Q x.t) (sqN P Q x.t) w OU.out b2 b3
          unfold sqM sqN at hst m3
          generalize x.t = T at *
          generalize mlP P Q P Q = M1 at *
          generalize mlQ P Q P Q = N1 at *
          generalize mlP T 1 M1 N1 = M2 at *
          generalize mlQ T 1 M1 N1 = N2 at *
          generalize adP u v M2 N2 = U3 at *
          generalize adQ u v M2 N2 = V3 at *
          have H1 := hid m1; have H2 := hid m2; have H3 := hid m3; have HST := hid hst
          clear m1 m2 m3 hst hb b1 b2 b3 o0 hzk hxk hT
          obtain ⟨_, _⟩ := cells2 Y0.out
          have _ := fz Y0.out
          have _ := ltb Y0.out
          obtain ⟨_, _, _, _, _⟩ := cells5 Y1.out
          have _ := fz Y1.out
          have _ := ltb Y1.out
          obtain ⟨_, _⟩ := cells2 YS.out
          have _ := fz YS.out
          have _ := ltb YS.out
          go_wp2_with fail
          refine wp_reg0 12 (by kernel_rfl) (by kernel_rfl) ?_
          apply Exists.intro
          refine ⟨fun wb hb => ?_, ?_⟩
          · obtain ⟨_, _⟩ := hb.at2 (((Gr.refl _).al _).keep Y0.out)
            obtain ⟨_, _, _, _, _⟩ := hb.at5 (((Gr.refl _).al _).keep Y1.out)
            obtain ⟨_, _⟩ := hb.at2 (((Gr.refl _).al _).keep YS.out)
            obtain ⟨_, _⟩ := hb.at2 (alloc1 (Gr.refl _)).1
            have _ := hb.atF CT.out
            simp only [headOps, List.contains, List.elem, reduceIte, Bool.false_eq_true]
            repeat (first | go_big_quiet_step (first | (go_at_call 71; exact Calls.of_gr (H1.out _)) | (go_at_call 85; exact Calls.of_gr (H2.out _)) | (go_at_call 69; exact Calls.of_gr (H3.out _))) | quiet_step (fail))
            exact wpQuiet_nil rfl
          intro w6 hg6
          have g6 := ((Gr.refl wr).al (.cells #[.int .i64 P, .int .i64 Q] 24)).trans hg6
          have G6 := hid (GW.out.trans g6); have R6 := hid (RW.out.keep g6)
          have X60 := hid (g6.keep Y0.out); have X61 := hid (g6.keep Y1.out); have X62 := hid (g6.keep YS.out)
          obtain ⟨_, _⟩ := cells2 X62.out
          have _ := fz X62.out
          have _ := ltb X62.out
          have hA := HNE.out
          clear hg6 g6 c1 c2
          go_wp2_with fail
          exact ⟨⟨k + 1, U3, V3, by simp, by omega, (G6.out.setCell (by simp; omega) _).setCell (by simp; omega) _, RdF.only R6.out (((Only.refl w1.heap.size w6).set 0 _).set 1 _) hA, set2_old X60.out (by omega), set2_old X61.out (by omega), set2_new X62.out, HST.out⟩, by simp [intOf]; omega⟩
        | false =>
          have HST := hid (sqs_none (sqs_f HS.out hzk hxk hb) xs.length (by omega))
          cases b1 : mlB P Q P Q with
          | false =>
            have H1 := hid fun w => timesm_f P Q P Q w o0 o0 b1
            clear hb b1 o0 hzk hxk hT
            obtain ⟨_, _⟩ := cells2 Y0.out
            have _ := fz Y0.out
            have _ := ltb Y0.out
            obtain ⟨_, _, _, _, _⟩ := cells5 Y1.out
            have _ := fz Y1.out
            have _ := ltb Y1.out
            obtain ⟨_, _⟩ := cells2 YS.out
            have _ := fz YS.out
            have _ := ltb YS.out
            go_wp2_with fail
            refine wp_regP 3 [10, 11, 12] (by kernel_rfl) (by kernel_rfl) rfl ?_
            apply Exists.intro
            refine ⟨71, #[fr P Q, fr P Q], fun wb hb => ?_, ?_⟩
            · obtain ⟨_, _⟩ := hb.at2 (((Gr.refl _).al _).keep Y0.out)
              obtain ⟨_, _, _, _, _⟩ := hb.at5 (((Gr.refl _).al _).keep Y1.out)
              obtain ⟨_, _⟩ := hb.at2 (((Gr.refl _).al _).keep YS.out)
              obtain ⟨_, _⟩ := hb.at2 (alloc1 (Gr.refl _)).1
              have _ := hb.atF CT.out
              simp only [headOps, List.contains, List.elem, List.length_cons, List.length_nil, Nat.zero_add, Nat.reduceAdd, Nat.reduceBEq, reduceIte, Bool.false_eq_true, dumOp]
              repeat (first | go_big_quiet_step (first | (fail)) | quiet_step (fail))
              exact wpQuiet_nil rfl
            refine ⟨fun w' => by kernel_rfl, fun w' hg' => (H1.out w').mono fun e w2 ⟨⟨x, y, he⟩, hg2⟩ => ⟨_, he, fun a' ha' => ⟨ha', .inr ⟨.inr (by rw [HZS.out]; exact HST.out), x, y, rfl⟩, ((GW.out.al _).trans hg').trans hg2⟩⟩⟩
          | true =>
          cases b2 : mlB x.t 1 (mlP P Q P Q) (mlQ P Q P Q) with
          | false =>
            have m1 := fun w => timesm_t P Q P Q w o0 o0 b1
            have m2 := fun w => itwm_f (mlP P Q P Q) (mlQ P Q P Q) x.t w b1 hT b2
            generalize x.t = T at *
            generalize mlP P Q P Q = M1 at *
            generalize mlQ P Q P Q = N1 at *
            have H1 := hid m1; have H2 := hid m2
            clear m1 m2 hb b1 b2 o0 hzk hxk hT
            obtain ⟨_, _⟩ := cells2 Y0.out
            have _ := fz Y0.out
            have _ := ltb Y0.out
            obtain ⟨_, _, _, _, _⟩ := cells5 Y1.out
            have _ := fz Y1.out
            have _ := ltb Y1.out
            obtain ⟨_, _⟩ := cells2 YS.out
            have _ := fz YS.out
            have _ := ltb YS.out
            go_wp2_with fail
            refine wp_regP 10 [11, 12] (by kernel_rfl) (by kernel_rfl) rfl ?_
            apply Exists.intro
            refine ⟨85, #[fr M1 N1, .int .i64 T], fun wb hb => ?_, ?_⟩
            · obtain ⟨_, _⟩ := hb.at2 (((Gr.refl _).al _).keep Y0.out)
              obtain ⟨_, _, _, _, _⟩ := hb.at5 (((Gr.refl _).al _).keep Y1.out)
              obtain ⟨_, _⟩ := hb.at2 (((Gr.refl _).al _).keep YS.out)
              obtain ⟨_, _⟩ := hb.at2 (alloc1 (Gr.refl _)).1
              have _ := hb.atF CT.out
              simp only [headOps, List.contains, List.elem, List.length_cons, List.length_nil, Nat.zero_add, Nat.reduceAdd, Nat.reduceBEq, reduceIte, Bool.false_eq_true, dumOp]
              repeat (first | go_big_quiet_step (first | (go_at_call 71; exact Calls.of_gr (H1.out _))) | quiet_step (fail))
              exact wpQuiet_nil rfl
            refine ⟨fun w' => by kernel_rfl, fun w' hg' => (H2.out w').mono fun e w2 ⟨⟨x, y, he⟩, hg2⟩ => ⟨_, he, fun a' ha' => ⟨ha', .inr ⟨.inr (by rw [HZS.out]; exact HST.out), x, y, rfl⟩, ((GW.out.al _).trans hg').trans hg2⟩⟩⟩
          | true =>
            have b3 : okB (adP u v (sqM P Q x.t) (sqN P Q x.t)) (adQ u v (sqM P Q x.t) (sqN P Q x.t)) = false := by unfold sqB at hb; rw [b1, b2] at hb; simpa using hb
            have m1 := fun w => timesm_t P Q P Q w o0 o0 b1
            have m2 := fun w => itwm_t (mlP P Q P Q) (mlQ P Q P Q) x.t w b1 hT b2
            have m3 := fun w => plusa_f u v (sqM P Q x.t) (sqN P Q x.t) w OU.out b2 b3
            unfold sqM sqN at m3
            generalize x.t = T at *
            generalize mlP P Q P Q = M1 at *
            generalize mlQ P Q P Q = N1 at *
            generalize mlP T 1 M1 N1 = M2 at *
            generalize mlQ T 1 M1 N1 = N2 at *
            have H1 := hid m1; have H2 := hid m2; have H3 := hid m3
            clear m1 m2 m3 hb b1 b2 b3 o0 hzk hxk hT
            obtain ⟨_, _⟩ := cells2 Y0.out
            have _ := fz Y0.out
            have _ := ltb Y0.out
            obtain ⟨_, _, _, _, _⟩ := cells5 Y1.out
            have _ := fz Y1.out
            have _ := ltb Y1.out
            obtain ⟨_, _⟩ := cells2 YS.out
            have _ := fz YS.out
            have _ := ltb YS.out
            go_wp2_with fail
            refine wp_regP 11 [12] (by kernel_rfl) (by kernel_rfl) rfl ?_
            apply Exists.intro
            refine ⟨69, #[fr u v, fr M2 N2], fun wb hb => ?_, ?_⟩
            · obtain ⟨_, _⟩ := hb.at2 (((Gr.refl _).al _).keep Y0.out)
              obtain ⟨_, _, _, _, _⟩ := hb.at5 (((Gr.refl _).al _).keep Y1.out)
              obtain ⟨_, _⟩ := hb.at2 (((Gr.refl _).al _).keep YS.out)
              obtain ⟨_, _⟩ := hb.at2 (alloc1 (Gr.refl _)).1
              have _ := hb.atF CT.out
              simp only [headOps, List.contains, List.elem, List.length_cons, List.length_nil, Nat.zero_add, Nat.reduceAdd, Nat.reduceBEq, reduceIte, Bool.false_eq_true, dumOp]
              repeat (first | go_big_quiet_step (first | (go_at_call 71; exact Calls.of_gr (H1.out _)) | (go_at_call 85; exact Calls.of_gr (H2.out _))) | quiet_step (fail))
              exact wpQuiet_nil rfl
            refine ⟨fun w' => by kernel_rfl, fun w' hg' => (H3.out w').mono fun e w2 ⟨⟨x, y, he⟩, hg2⟩ => ⟨_, he, fun a' ha' => ⟨ha', .inr ⟨.inr (by rw [HZS.out]; exact HST.out), x, y, rfl⟩, ((GW.out.al _).trans hg').trans hg2⟩⟩⟩
      · have hke : k = xs.length := by omega
        subst hke
        obtain ⟨_, _⟩ := cells2 Y0.out
        have _ := fz Y0.out
        have _ := ltb Y0.out
        obtain ⟨_, _⟩ := cells2 YS.out
        have _ := fz YS.out
        have _ := ltb YS.out
        go_wp2_with fail
        refine bodyPost_ret (v := fr u v) (by simp [results, Try.results84, go_sem, *]) rfl ⟨.inl ⟨HV.out, u, v, by rw [HZS.out]; exact HS.out, rfl⟩, ?_⟩
        exact (GW.out.setCell (by simp) _).setCell (by simp) _
  · exact ⟨rfl, .inr ⟨.inl hv, x, y, rfl⟩, (G1.out.al _).trans hg⟩
theorem sq_fst {xs : List Obv} {ys : List (Int × Int)} {U V : Int} {e : Ending} (hv : RsdAll xs ys) (hs : sqs (rsdL xs ys) xs xs.length = some (U, V)) (h : (RsdAll xs ys ∧ ∃ u v, sqs (rsdL xs ys) xs xs.length = some (u, v) ∧ e = .returned (fr u v)) ∨ ((¬ RsdAll xs ys ∨ sqs (rsdL xs ys) xs xs.length = none) ∧ ∃ x y, e = .panicked [{ v := .iface 138 (fr x y), recovered := false }])) : e = .returned (fr U V) := by
  rcases h with ⟨_, u, v, h, he⟩ | ⟨h | h, _⟩
  · rw [hs] at h; cases h; exact he
  · exact absurd hv h
  · rw [hs] at h; cases h
theorem sq_snd {xs : List Obv} {ys : List (Int × Int)} {e : Ending} (hv : ¬ RsdAll xs ys ∨ sqs (rsdL xs ys) xs xs.length = none) (h : (RsdAll xs ys ∧ ∃ u v, sqs (rsdL xs ys) xs xs.length = some (u, v) ∧ e = .returned (fr u v)) ∨ ((¬ RsdAll xs ys ∨ sqs (rsdL xs ys) xs xs.length = none) ∧ ∃ x y, e = .panicked [{ v := .iface 138 (fr x y), recovered := false }])) : ∃ x y, e = .panicked [{ v := .iface 138 (fr x y), recovered := false }] := by
  rcases h with ⟨h1, u, v, h, _⟩ | ⟨_, h⟩
  · rcases hv with hv | hv
    · exact absurd h1 hv
    · rw [hv] at h; cases h
  · exact h
set_option maxRecDepth 20000 in
set_option maxHeartbeats 400000 in
theorem iSq_no (n : Int) (A : Option Addr) (c : Nat) (b : Bool) (p q : Int) (xs : List Obv) (B : Option Addr) (d : Nat) (ys : List (Int × Int)) (C : Int) (w : World) (X : Hid (RdO w A xs)) (Y : Hid (RdF w B ys)) (hn : xs.length ≤ 1048576) (hm : ys.length ≤ 1048576) (hw : xs.all wfE = true) (hC : askC n b p q xs ys = C) (h0 : (C == 0) = false) :
    Calls Try.prog 34 #[tbl n A xs.length c b p q, .slice B ys.length d] w fun e w' => e = .returned (.tuple #[fr 0 0, .int .i64 C]) ∧ Gr w w' := by
  have HA := hid fun (w : World) (X : Hid (RdO w A xs)) (Y : Hid (RdF w B ys)) => iAsked n A c b p q xs B d ys C w X Y hn hm hw hC
  clear hC hw
  go_enter Try.func34, Try.ntmps34
  go_wp2_with fail
  refine (HA.out _ (hid (X.out.keep ((((Gr.refl w).al _).al _).al _))) (hid (Y.out.keep ((((Gr.refl w).al _).al _).al _)))).mono ?_
  rintro e w1 ⟨rfl, hg1⟩
  obtain ⟨x1_0, x1_1, x1_2, hz1, g1⟩ := alloc3 hg1
  obtain ⟨_, _, _, _, _⟩ := cells5 x1_0
  have _ := fz x1_0
  have _ := ltb x1_0
  have _ := cells1 x1_1
  have _ := fz x1_1
  have _ := ltb x1_1
  obtain ⟨_, _⟩ := cells2 x1_2
  have _ := fz x1_2
  have _ := ltb x1_2
  have X1_0 := hid x1_0; clear x1_0
  have X1_1 := hid x1_1; clear x1_1
  have X1_2 := hid x1_2; clear x1_2
  have G1 := hid (g1)
  clear hg1 g1
  go_wp2
  refine bodyPost_ret (v := .tuple #[fr 0 0, .int .i64 C]) (by simp [results, Try.results34, go_sem, *]) rfl ⟨rfl, ?_⟩
  exact ((G1.out).setCell (by simp <;> omega) _).setCell (by simp <;> omega) _
set_option maxRecDepth 20000 in
set_option maxHeartbeats 1000000 in
theorem iSq (n : Int) (g : Nat) (c : Nat) (b : Bool) (p q : Int) (xs : List Obv) (B : Option Addr) (d : Nat) (ys : List (Int × Int)) (U V C : Int) (w : World) (X : Hid (RdO w (some ⟨g, 0, none⟩) xs)) (Y : Hid (RdF w B ys)) (hw : xs.all wfE = true) (hC : askC n b p q xs ys = 0)
    (hv : (RsdAll xs ys ∧ sqs (rsdL xs ys) xs xs.length = some (U, V) ∧ C = 0) ∨ ((¬ RsdAll xs ys ∨ sqs (rsdL xs ys) xs xs.length = none) ∧ U = 0 ∧ V = 0 ∧ C = 3)) :
    Calls Try.prog 34 #[tbl n (some ⟨g, 0, none⟩) xs.length c b p q, .slice B ys.length d] w fun e w' => e = .returned (.tuple #[fr U V, .int .i64 C]) ∧ Gr w w' := by
  obtain ⟨ht, hall, rfl⟩ := ask_zero hC
  obtain ⟨hl24, hl1, hl6, hob⟩ := tb_obs ht
  have HA := hid fun (w : World) (X : Hid (RdO w (some ⟨g, 0, none⟩) xs)) (Y : Hid (RdF w B ys)) => iAsked (ys.length : Int) (some ⟨g, 0, none⟩) c b p q xs B d ys 0 w X Y (by omega) (by omega) hw hC
  have HF := hid fun (k1 k2 : Nat) (w : World) (X1 : Hid (w.heap[k1]? = some (.cells #[.int .i64 (ys.length : Int), .slice (some ⟨g, 0, none⟩) xs.length c, .bool b, .int .i64 p, .int .i64 q] 50))) (X2 : Hid (w.heap[k2]? = some (.cells #[.slice B ys.length d] 25))) (X : Hid (RdO w (some ⟨g, 0, none⟩) xs)) (Y : Hid (RdF w B ys)) => cSq g B c d k1 k2 b p q xs ys w X1 X2 X Y hl24 hl6 hob hall
  clear hC hw ht hob hall
  rcases hv with ⟨hv, hs, rfl⟩ | ⟨hv, rfl, rfl, rfl⟩
  · have HV := hid hv; have HS := hid hs; clear hv hs
    go_enter Try.func34, Try.ntmps34
    go_wp2_with fail
    refine (HA.out _ (hid (X.out.keep ((((Gr.refl w).al _).al _).al _))) (hid (Y.out.keep ((((Gr.refl w).al _).al _).al _)))).mono ?_
    rintro e w1 ⟨rfl, hg1⟩
    obtain ⟨x1_0, x1_1, x1_2, hz1, g1⟩ := alloc3 hg1
    obtain ⟨_, _, _, _, _⟩ := cells5 x1_0
    have _ := fz x1_0
    have _ := ltb x1_0
    have _ := cells1 x1_1
    have _ := fz x1_1
    have _ := ltb x1_1
    obtain ⟨_, _⟩ := cells2 x1_2
    have _ := fz x1_2
    have _ := ltb x1_2
    have X1_0 := hid x1_0; clear x1_0
    have X1_1 := hid x1_1; clear x1_1
    have X1_2 := hid x1_2; clear x1_2
    have G1 := hid (g1)
    clear hg1 g1
    go_wp2_with fail
    refine (told_ok_F 84 #[.pointer (some ⟨w.heap.size, 0, none⟩), .pointer (some ⟨w.heap.size + 1, 0, none⟩)] U V _ (fun _ => by kernel_rfl) (fun w' hg' => (HF.out _ _ w' (hid (hg'.keep X1_0.out)) (hid (hg'.keep X1_1.out)) (hid (X.out.keep (G1.out.trans hg'))) (hid (Y.out.keep (G1.out.trans hg')))).mono fun e w'' hh => ⟨sq_fst HV.out HS.out hh.1, hh.2⟩)).mono ?_
    rintro e w2 ⟨rfl, hg2⟩
    have x2_1 := hg2.keep X1_0.out
    have x2_2 := hg2.keep X1_1.out
    have x2_3 := hg2.keep X1_2.out
    obtain ⟨_, _, _, _, _⟩ := cells5 x2_1
    have _ := fz x2_1
    have _ := ltb x2_1
    have _ := cells1 x2_2
    have _ := fz x2_2
    have _ := ltb x2_2
    obtain ⟨_, _⟩ := cells2 x2_3
    have _ := fz x2_3
    have _ := ltb x2_3
    have X2_1 := hid x2_1; clear x2_1
    have X2_2 := hid x2_2; clear x2_2
    have X2_3 := hid x2_3; clear x2_3
    have G2 := hid (G1.out.trans hg2)
    clear hg2
    go_wp2
    refine bodyPost_ret (v := .tuple #[fr U V, .int .i64 0]) (by simp [results, Try.results34, go_sem, *]) rfl ⟨rfl, ?_⟩
    exact ((G2.out).setCell (by simp <;> omega) _).setCell (by simp <;> omega) _
  · have HV := hid hv; clear hv
    go_enter Try.func34, Try.ntmps34
    go_wp2_with fail
    refine (HA.out _ (hid (X.out.keep ((((Gr.refl w).al _).al _).al _))) (hid (Y.out.keep ((((Gr.refl w).al _).al _).al _)))).mono ?_
    rintro e w1 ⟨rfl, hg1⟩
    obtain ⟨x1_0, x1_1, x1_2, hz1, g1⟩ := alloc3 hg1
    obtain ⟨_, _, _, _, _⟩ := cells5 x1_0
    have _ := fz x1_0
    have _ := ltb x1_0
    have _ := cells1 x1_1
    have _ := fz x1_1
    have _ := ltb x1_1
    obtain ⟨_, _⟩ := cells2 x1_2
    have _ := fz x1_2
    have _ := ltb x1_2
    have X1_0 := hid x1_0; clear x1_0
    have X1_1 := hid x1_1; clear x1_1
    have X1_2 := hid x1_2; clear x1_2
    have G1 := hid (g1)
    clear hg1 g1
    go_wp2_with fail
    refine (told_great_F 84 #[.pointer (some ⟨w.heap.size, 0, none⟩), .pointer (some ⟨w.heap.size + 1, 0, none⟩)] _ (fun _ => by kernel_rfl) (fun w' hg' => (HF.out _ _ w' (hid (hg'.keep X1_0.out)) (hid (hg'.keep X1_1.out)) (hid (X.out.keep (G1.out.trans hg'))) (hid (Y.out.keep (G1.out.trans hg')))).mono fun e w'' hh => ⟨sq_snd HV.out hh.1, hh.2⟩)).mono ?_
    rintro e w2 ⟨rfl, hg2⟩
    have x2_1 := hg2.keep X1_0.out
    have x2_2 := hg2.keep X1_1.out
    have x2_3 := hg2.keep X1_2.out
    obtain ⟨_, _, _, _, _⟩ := cells5 x2_1
    have _ := fz x2_1
    have _ := ltb x2_1
    have _ := cells1 x2_2
    have _ := fz x2_2
    have _ := ltb x2_2
    obtain ⟨_, _⟩ := cells2 x2_3
    have _ := fz x2_3
    have _ := ltb x2_3
    have X2_1 := hid x2_1; clear x2_1
    have X2_2 := hid x2_2; clear x2_2
    have X2_3 := hid x2_3; clear x2_3
    have G2 := hid (G1.out.trans hg2)
    clear hg2
    go_wp2
    refine bodyPost_ret (v := .tuple #[fr 0 0, .int .i64 3]) (by simp [results, Try.results34, go_sem, *]) rfl ⟨rfl, ?_⟩
    exact ((G2.out).setCell (by simp <;> omega) _).setCell (by simp <;> omega) _
theorem bothSquaresOf (n : Int) (b : Bool) (p q : Int) (xs : List Obv) (ys : List (Int × Int)) (hn : xs.length ≤ 1048576) (hm : ys.length ≤ 1048576) (hw : xs.all wfE = true) : ∃ P0 Q0 R1 : Int,
    (∀ (g : Nat) (A : Option Addr) (c d : Nat) (w : World), xs.length ≤ c → ys.length ≤ d → Hid (RdO w (some ⟨g, 0, none⟩) xs) → Hid (RdF w A ys) → Calls Try.prog 33 #[tbl n (some ⟨g, 0, none⟩) xs.length c b p q, .slice A ys.length d] w fun x w' => x = .returned (.tuple #[fr P0 Q0, .int .i64 R1]) ∧ Gr w w') ∧
    (∀ (g : Nat) (A : Option Addr) (c d : Nat) (w : World), xs.length ≤ c → ys.length ≤ d → Hid (RdO w (some ⟨g, 0, none⟩) xs) → Hid (RdF w A ys) → Calls Try.prog 34 #[tbl n (some ⟨g, 0, none⟩) xs.length c b p q, .slice A ys.length d] w fun x w' => x = .returned (.tuple #[fr P0 Q0, .int .i64 R1]) ∧ Gr w w') := by
  obtain ⟨C, hC⟩ : ∃ C, askC n b p q xs ys = C := ⟨_, rfl⟩
  cases h0 : (C == 0) with
  | false => exact ⟨0, 0, C, fun g B c d w _ _ X Y => sSq_no n g c b p q xs B d ys [] C w X Y (by simpa using h0) (fun w X Y => sRO_no n g c b p q xs B d ys C w X Y hn hm hw hC h0), fun g B c d w _ _ X Y => iSq_no n _ c b p q xs B d ys C w X Y hn hm hw hC h0⟩
  | true =>
    obtain rfl : C = 0 := by simpa using h0
    obtain ⟨ht, hall, hl⟩ := ask_zero hC
    subst hl
    obtain ⟨hl24, hl1, hl6, hob⟩ := tb_obs ht
    by_cases hv : RsdAll xs ys
    · cases hs : sqs (rsdL xs ys) xs xs.length with
      | none => exact ⟨0, 0, 3, fun g B c d w _ _ X Y => (sSq ys.length g c b p q xs B d ys (rsdL xs ys) w X Y (rsdL_len _ _) hl24 (rsdL_all hv hob) hob (fun w X Y => (sRO_yes _ g c b p q xs B d ys w X Y hw hC).mono fun e w' h => (pickF h).1 hv)).mono fun e w' h => by rw [hs] at h; exact h, fun g B c d w _ _ X Y => iSq _ g c b p q xs B d ys 0 0 3 w X Y hw hC (.inr ⟨.inr hs, rfl, rfl, rfl⟩)⟩
      | some uv =>
        obtain ⟨U, V⟩ := uv
        exact ⟨U, V, 0, fun g B c d w _ _ X Y => (sSq ys.length g c b p q xs B d ys (rsdL xs ys) w X Y (rsdL_len _ _) hl24 (rsdL_all hv hob) hob (fun w X Y => (sRO_yes _ g c b p q xs B d ys w X Y hw hC).mono fun e w' h => (pickF h).1 hv)).mono fun e w' h => by rw [hs] at h; exact h, fun g B c d w _ _ X Y => iSq _ g c b p q xs B d ys U V 0 w X Y hw hC (.inl ⟨hv, hs, rfl⟩)⟩
    · exact ⟨0, 0, 3, fun g B c d w _ _ X Y => sSq_no _ g c b p q xs B d ys [] 3 w X Y (by decide) (fun w X Y => (sRO_yes _ g c b p q xs B d ys w X Y hw hC).mono fun e w' h => (pickF h).2 hv), fun g B c d w _ _ X Y => iSq _ g c b p q xs B d ys 0 0 3 w X Y hw hC (.inr ⟨.inl hv, rfl, rfl, rfl⟩)⟩
end Go.Proofs.Ytjhlpaeenjbljaa
