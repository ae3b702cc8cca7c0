/- WALKS: CorrectScale: the reference, and both sides joined. -/
import Derived.Test.YteeadoglbkociaaCt
namespace Go.Proofs.Yteeadoglbkociaa
open Go.RowKit Go.Sort

set_option maxRecDepth 20000 in
set_option maxHeartbeats 1000000 in
theorem sCS_0 (a b : Int) (A B : Option Addr) (c d : Nat) (xs ys : List (Int × Int)) (w : World) (X : Hid (RdF w A xs)) (hn : xs.length ≤ 1048576) (_hm : ys.length ≤ 1048576) (h : sclB a b xs = false) :
    Calls Try.prog 48 #[scl a b A xs.length c, .slice B ys.length d] w fun e w' => e = .returned (.tuple #[scl 0 0 none 0 0, .int .i64 1]) ∧ Gr w w' := by
  have h := hid h
  go_enter Try.func48, Try.ntmps48
  go_wp2_with fail
  refine (sScF a b A c _ xs _ (hid (alloc2 (Gr.refl _)).1) (hid (X.out.keep (((Gr.refl w).al _).al _))) hn h.out).mono ?_
  rintro e w1 ⟨rfl, hg1⟩
  obtain ⟨x1_0, x1_1, hz1, g1⟩ := alloc2 hg1
  obtain ⟨_, _, _⟩ := cells3 x1_0
  have _ := fz x1_0
  have _ := ltb x1_0
  obtain ⟨_, _, _⟩ := cells3 x1_1
  have _ := fz x1_1
  have _ := ltb x1_1
  have X1_0 := hid x1_0; clear x1_0
  have X1_1 := hid x1_1; clear x1_1
  have G1 := hid (g1)
  clear hg1 g1
  go_wp2_with fail
  go_loopw [6, 7] (fun o u wr => u = .int .i64 0 ∧ o = .bool false ∧ wr = w1) (fun _ _ _ => 0)
  case atStart => exact ⟨rfl, rfl, rfl⟩
  case round =>
    obtain ⟨rfl, rfl, rfl⟩ := hrel
    obtain ⟨_, _, _⟩ := cells3 X1_1.out
    have _ := fz X1_1.out
    have _ := ltb X1_1.out
    by_cases hlt : 0 < ys.length
    all_goals
      go_wp2_with fail
      refine bodyPost_ret (v := .tuple #[scl 0 0 none 0 0, .int .i64 1]) (by simp [results, Try.results48, go_sem, *]) rfl ?_
      exact ⟨rfl, ((G1.out.setCell (by simp <;> omega) _).setCell (by simp <;> omega) _).setCell (by simp <;> omega) _⟩
set_option maxRecDepth 20000 in
set_option maxHeartbeats 1000000 in
theorem sCS_1 (a b : Int) (A B : Option Addr) (c d : Nat) (xs ys : List (Int × Int)) (w : World) (X : Hid (RdF w A xs)) (Y : Hid (RdF w B ys)) (hn : xs.length ≤ 1048576) (hm : ys.length ≤ 1048576) (h : sclB a b xs = true) (h2 : allF ys = false) :
    Calls Try.prog 48 #[scl a b A xs.length c, .slice B ys.length d] w fun e w' => e = .returned (.tuple #[scl 0 0 none 0 0, .int .i64 1]) ∧ Gr w w' := by
  have h := hid h; have H2 := hid h2
  clear h2
  go_enter Try.func48, Try.ntmps48
  go_wp2_with fail
  refine (sScT a b A c _ xs _ (hid (alloc2 (Gr.refl _)).1) (hid (X.out.keep (((Gr.refl w).al _).al _))) hn h.out).mono ?_
  rintro e w1 ⟨rfl, hg1⟩
  obtain ⟨x1_0, x1_1, hz1, g1⟩ := alloc2 hg1
  obtain ⟨_, _, _⟩ := cells3 x1_0
  have _ := fz x1_0
  have _ := ltb x1_0
  obtain ⟨_, _, _⟩ := cells3 x1_1
  have _ := fz x1_1
  have _ := ltb x1_1
  have X1_0 := hid x1_0; clear x1_0
  have X1_1 := hid x1_1; clear x1_1
  have G1 := hid (g1)
  clear hg1 g1
  go_wp2_with fail
  go_loopw [6, 7] (fun o u wr => ∃ (k : Nat) (b : Bool), u = .int .i64 (k : Int) ∧ o = .bool b ∧ k ≤ ys.length ∧ Gr w1 wr ∧ (b = true → (ys.take k).all (fun x => okB x.1 x.2) = true)) (fun _ u _ => ys.length - (intOf u).toNat)
  case atStart => exact ⟨0, _, rfl, rfl, by omega, Gr.refl _, fun _ => rfl⟩
  case round =>
    obtain ⟨k, b, rfl, rfl, hk, hg, hb⟩ := hrel
    have GV := hid (G1.out.trans hg); have GW := hid hg; have HB := hid hb
    have Y2 := hid (hg.keep X1_1.out)
    clear hg hb
    cases b with
    | false =>
      obtain ⟨_, _, _⟩ := cells3 Y2.out
      have _ := fz Y2.out
      have _ := ltb Y2.out
      by_cases hlt : k < ys.length
      all_goals
        go_wp2_with fail
        refine bodyPost_ret (v := .tuple #[scl 0 0 none 0 0, .int .i64 1]) (by simp [results, Try.results48, go_sem, *]) rfl ?_
        exact ⟨rfl, ((GV.out.setCell (by simp <;> omega) _).setCell (by simp <;> omega) _).setCell (by simp <;> omega) _⟩
    | true =>
      by_cases hlt : k < ys.length
      · obtain ⟨⟨p, q⟩, hpq⟩ : ∃ pq, ys[k]? = some pq := ⟨ys[k], List.getElem?_eq_getElem _⟩
        obtain ⟨ad, rfl, c1, c2⟩ := (Y.out.keep GV.out) k p q hpq
        have HP := hid hpq; clear hpq
        cases hx : okB p q with
        | true =>
          have HX := hid hx; clear hx
          go_wp2_with fail
          refine (sok_t _ _ _ HX.out).mono ?_
          rintro e w1 ⟨rfl, hg1⟩
          have G1 := hid (GW.out.trans hg1)
          clear hg1
          go_wp2_with fail
          exact ⟨⟨k + 1, _, by simp, rfl, by omega, G1.out, fun _ => all_take HP.out (HB.out (by simp)) HX.out⟩, by simp [intOf]; omega⟩
        | false =>
          have HX := hid hx; clear hx
          go_wp2_with fail
          refine (sok_f _ _ _ HX.out).mono ?_
          rintro e w1 ⟨rfl, hg1⟩
          have G1 := hid (GW.out.trans hg1)
          clear hg1
          go_wp2_with fail
          exact ⟨⟨k + 1, _, by simp, rfl, by omega, G1.out, fun h => by cases h⟩, by simp [intOf]; omega⟩
      · exfalso
        have hke : k = ys.length := by omega
        have h5 := HB.out (by simp)
        rw [hke, List.take_length] at h5
        have h6 := H2.out
        unfold allF at h6
        rw [h5] at h6
        cases h6
set_option maxRecDepth 20000 in
set_option maxHeartbeats 1000000 in
theorem sCS_2 (a b : Int) (A B : Option Addr) (c d : Nat) (xs ys : List (Int × Int)) (w : World) (X : Hid (RdF w A xs)) (Y : Hid (RdF w B ys)) (hn : xs.length ≤ 1048576) (hm : ys.length ≤ 1048576) (h : sclB a b xs = true) (h2 : allF ys = true) (h3 : ys.length ≠ xs.length) :
    Calls Try.prog 48 #[scl a b A xs.length c, .slice B ys.length d] w fun e w' => e = .returned (.tuple #[scl 0 0 none 0 0, .int .i64 2]) ∧ Gr w w' := by
  have h := hid h; have HALL := hid h2
  have h4 : ((ys.length : Int) == (xs.length : Int)) = false := by simp; omega
  clear h2
  go_enter Try.func48, Try.ntmps48
  go_wp2_with fail
  refine (sScT a b A c _ xs _ (hid (alloc2 (Gr.refl _)).1) (hid (X.out.keep (((Gr.refl w).al _).al _))) hn h.out).mono ?_
  rintro e w1 ⟨rfl, hg1⟩
  obtain ⟨x1_0, x1_1, hz1, g1⟩ := alloc2 hg1
  obtain ⟨_, _, _⟩ := cells3 x1_0
  have _ := fz x1_0
  have _ := ltb x1_0
  obtain ⟨_, _, _⟩ := cells3 x1_1
  have _ := fz x1_1
  have _ := ltb x1_1
  have X1_0 := hid x1_0; clear x1_0
  have X1_1 := hid x1_1; clear x1_1
  have G1 := hid (g1)
  clear hg1 g1
  go_wp2_with fail
  go_loopw [6, 7] (fun o u wr => ∃ (k : Nat), u = .int .i64 (k : Int) ∧ o = .bool true ∧ k ≤ ys.length ∧ Gr w1 wr) (fun _ u _ => ys.length - (intOf u).toNat)
  case atStart => exact ⟨0, rfl, rfl, by omega, Gr.refl _⟩
  case round =>
    obtain ⟨k, rfl, rfl, hk, hg⟩ := hrel
    have GV := hid (G1.out.trans hg); have GW := hid hg
    have Y2 := hid (hg.keep X1_1.out); have Y1 := hid (hg.keep X1_0.out)
    clear hg
    by_cases hlt : k < ys.length
    · obtain ⟨⟨p, q⟩, hpq⟩ : ∃ pq, ys[k]? = some pq := ⟨ys[k], List.getElem?_eq_getElem _⟩
      obtain ⟨ad, rfl, c1, c2⟩ := (Y.out.keep GV.out) k p q hpq
      have HX := hid (allF_get HALL.out hpq); clear hpq
      go_wp2_with fail
      refine (sok_t _ _ _ HX.out).mono ?_
      rintro e w1 ⟨rfl, hg1⟩
      have G1 := hid (GW.out.trans hg1)
      clear hg1
      go_wp2_with fail
      exact ⟨⟨k + 1, by simp, rfl, by omega, G1.out⟩, by simp [intOf]; omega⟩
    · obtain ⟨_, _, _⟩ := cells3 Y1.out
      obtain ⟨_, _, _⟩ := cells3 Y2.out
      have _ := fz Y2.out
      have _ := ltb Y2.out
      go_wp2_with fail
      refine bodyPost_ret (v := .tuple #[scl 0 0 none 0 0, .int .i64 2]) (by simp [results, Try.results48, go_sem, *]) rfl ?_
      exact ⟨rfl, ((GV.out.setCell (by simp <;> omega) _).setCell (by simp <;> omega) _).setCell (by simp <;> omega) _⟩
set_option maxRecDepth 20000 in
set_option maxHeartbeats 4000000 in
theorem sCS_4 (a b : Int) (A B : Option Addr) (c d : Nat) (xs ys : List (Int × Int)) (w : World) (X : Hid (RdF w A xs)) (Y : Hid (RdF w B ys)) (h : sclB a b xs = true) (h2 : allF ys = true) (h3 : Hid (ys.length = xs.length)) :
    Calls Try.prog 48 #[scl a b A xs.length c, .slice B xs.length d] w fun e w' => (AllC xs ys ∧ ((sclB a b (csL xs ys) = true ∧ GivesS w w' e a b (csL xs ys) 0) ∨ (sclB a b (csL xs ys) = false ∧ GivesS w w' e 0 0 [] 4))) ∨ (¬ AllC xs ys ∧ GivesS w w' e 0 0 [] 3) := by
  obtain ⟨i0, hi, iz0, iz1, iz2⟩ : ∃ i, Try.prog.info? 25 = some i ∧ i.zero = some (fr 0 0) ∧ i.size = 2 ∧ i.bytes = 16 := ⟨_, rfl, rfl, rfl, rfl⟩
  have hS := scl_of h
  have hl : xs.length ≤ 60 := hS.hi
  have hl1 : 2 ≤ xs.length := hS.lo
  have hn : xs.length ≤ 1048576 := by omega
  have HX := hid hS.all; have HY := hid h2
  have HLEN : Hid ((csL xs ys).length = xs.length) := hid (csL_len h3.out)
  have h := hid h
  clear hS h2
  go_enter Try.func48, Try.ntmps48
  go_wp2_with fail
  refine (sScT a b A c _ xs _ (hid (alloc2 (Gr.refl _)).1) (hid (X.out.keep (((Gr.refl w).al _).al _))) hn h.out).mono ?_
  rintro e w1 ⟨rfl, hg1⟩
  obtain ⟨x1_0, x1_1, hz1, g1⟩ := alloc2 hg1
  obtain ⟨_, _, _⟩ := cells3 x1_0
  have _ := fz x1_0
  have _ := ltb x1_0
  obtain ⟨_, _, _⟩ := cells3 x1_1
  have _ := fz x1_1
  have _ := ltb x1_1
  have X1_0 := hid x1_0; clear x1_0
  have X1_1 := hid x1_1; clear x1_1
  have G1 := hid (g1)
  clear hg1 g1
  go_wp2_with fail
  go_loopw [6, 7] (fun o u wr => ∃ (k : Nat), u = .int .i64 (k : Int) ∧ o = .bool true ∧ k ≤ xs.length ∧ Gr w1 wr) (fun _ u _ => xs.length - (intOf u).toNat)
  case atStart => exact ⟨0, rfl, rfl, by omega, Gr.refl _⟩
  case round =>
    obtain ⟨k, rfl, rfl, hk, hg⟩ := hrel
    have GV0 := hid (G1.out.trans hg); have GW0 := hid hg
    have Y2 := hid (hg.keep X1_1.out); have Y1 := hid (hg.keep X1_0.out)
    clear hg
    by_cases hlt : k < xs.length
    · have hlt2 : k < ys.length := by rw [h3.out]; exact hlt
      obtain ⟨⟨p, q⟩, hpq⟩ : ∃ pq, ys[k]? = some pq := ⟨ys[k], List.getElem?_eq_getElem _⟩
      obtain ⟨ad, rfl, c1, c2⟩ := (Y.out.keep GV0.out) k p q hpq
      have HX := hid (allF_get HY.out hpq); clear hpq hlt2
      go_wp2_with fail
      refine (sok_t _ _ _ HX.out).mono ?_
      rintro e w1 ⟨rfl, hg1⟩
      have G1 := hid (GW0.out.trans hg1)
      clear hg1
      go_wp2_with fail
      exact ⟨⟨k + 1, by simp, rfl, by omega, G1.out⟩, by simp [intOf]; omega⟩
    · obtain ⟨W4, hW4⟩ : ∃ W4, W4 = wr := ⟨_, rfl⟩
      subst hW4
      obtain ⟨_, _, _⟩ := cells3 Y1.out
      have hb2 : w.heap.size + 1 < W4.heap.size := ltb Y2.out
      go_wp2_with fail
      clear hk hlt
      go_loopw [9] (fun u wr => ∃ (k : Nat) (A' : Option Addr) (c' : Nat), u = .int .i64 (k : Int) ∧ k ≤ xs.length ∧ Gr W4 wr ∧ wr.heap[W4.heap.size]? = some (.cells #[.int .i64 a, .int .i64 b, .slice A' k c'] 76) ∧ wr.ownsRow W4.heap.size 25 2 (.slice A' k c') k (flatL ((csL xs ys).take k)) ∧ (∀ (i : Nat) (p q s t : Int), i < k → xs[i]? = some (p, q) → ys[i]? = some (s, t) → sbB p q s t = true)) (fun u _ => xs.length - (intOf u).toNat)
      case atStart => exact ⟨0, none, 0, rfl, by omega, (Gr.refl _).al _, (alloc1 (w := W4) (A := .cells #[.int .i64 a, .int .i64 b, .slice none 0 0] 76) (Gr.refl _)).1, by simpa using own_nilF _ _, fun i p q s t h => by omega⟩
      case round =>
        obtain ⟨k, A', c', rfl, hk, hg, hsc, hown, hok⟩ := hrel
        have GW := hid hg; have OWN := hid hown; have HOK := hid hok; have Y8 := hid hsc
        have GV := hid (GV0.out.trans hg)
        have Y3 := hid (hg.keep Y2.out); have YB := hid (hg.keep Y1.out)
        clear hg hown hok hsc
        by_cases hlt : k < xs.length
        · obtain ⟨⟨p, q⟩, hp⟩ : ∃ pq, xs[k]? = some pq := ⟨xs[k], List.getElem?_eq_getElem _⟩
          have hlt2 : k < ys.length := by rw [h3.out]; exact hlt
          obtain ⟨⟨s, t⟩, hs⟩ : ∃ pq, ys[k]? = some pq := ⟨ys[k], List.getElem?_eq_getElem _⟩
          clear hlt2
          have HPQ := hid (allF_get HX.out hp)
          have HST := hid (allF_get HY.out hs)
          obtain ⟨ad, rfl, c1, c2⟩ := (X.out.keep GV.out) k p q hp
          obtain ⟨ad2, rfl, d1, d2⟩ := (Y.out.keep GV.out) k s t hs
          have C1 := hid c1; have C2 := hid c2; have D1 := hid d1; have D2 := hid d2; have HP := hid hp; have HS := hid hs
          clear c1 c2 d1 d2 hp hs
          cases hd : sbB p q s t with
          | true =>
            have HD := hid hd
            have hpl := fun w => ssubv_t p q s t w HPQ.out HST.out HD.out
            have hsu := csL_take HP.out HS.out
            obtain ⟨P, hP⟩ : ∃ P, sbP p q s t = P := ⟨_, rfl⟩
            obtain ⟨Q, hQ⟩ : ∃ Q, sbQ p q s t = Q := ⟨_, rfl⟩
            rw [hP, hQ] at hpl hsu
            have HPL := hid hpl; have HSU := hid hsu
            clear hd hpl hP hQ hsu
            obtain ⟨_, _, _⟩ := cells3 Y8.out
            have _ := fz Y8.out
            have _ := ltb Y8.out
            obtain ⟨_, _, _⟩ := cells3 YB.out
            have _ := fz YB.out
            have _ := ltb YB.out
            go_wp2_with fail
            refine wp_reg1s #[.int .i64 0, .int .i64 0] 15 13 10 14 57 (by kernel_rfl) (by kernel_rfl) rfl rfl (by simp) rfl rfl (by decide) (fun _ _ => by kernel_rfl) (by kernel_rfl) ?_
            apply Exists.intro; apply Exists.intro
            refine ⟨fun wb hb => ?_, ?_⟩
            · obtain ⟨_, _, _⟩ := hb.at3 Y8.out
              obtain ⟨_, _, _⟩ := hb.at3 YB.out
              have _ := hb.atF C1.out; have _ := hb.atF C2.out; have _ := hb.atF D1.out; have _ := hb.atF D2.out
              simp only [headOps, List.contains, List.elem, Nat.reduceAdd, Nat.reduceBEq, reduceIte, Bool.false_eq_true, dumOp]
              repeat (first | go_big_quiet_step (first | (go_at_call 99; exact Calls.of_gr (HPL.out _))) | quiet_step (fail))
              exact wpQuiet_nil rfl
            refine ⟨rfl, ⟨rfl, by simp [Value.oneCell']⟩, fun w5 b5 hg5 _ xb5 => ?_⟩
            have OWN5 := hid (own_gr OWN.out (hg5.al (.cells #[.int .i64 P, .int .i64 Q] 25)))
            have NEW := hid (one_newsF (w := w5.alloc (.cells #[.int .i64 P, .int .i64 Q] 25)) (b := w5.heap.size) (alloc1 (Gr.refl _)).1)
            have G5 := hid ((GW.out.trans hg5).al (.cells #[.int .i64 P, .int .i64 Q] 25))
            have Y5 := hid (hg5.keep Y8.out)
            have hsz := G5.out.size
            obtain ⟨_, _⟩ := cells2 xb5
            have _ := fz xb5
            have _ := ltb xb5
            obtain ⟨_, _, _⟩ := cells3 Y5.out
            have _ := ltb Y5.out
            have Z5 := hid (((Gr.refl w5).al (.cells #[.int .i64 P, .int .i64 Q] 25)).keep Y5.out)
            have hne := own_ne OWN5.out Z5.out
            clear hg5 xb5 OWN
            go_wp2_with (at_builtin; refine (wpList_append_gr rfl _ _ 45 rfl W4.heap.size 25 i0 (fr 0 0) 2 16 Try.underlying45 hi iz0 iz1 iz2 rfl (by decide) _ k _ rfl OWN5.out ⟨w5.heap.size, 0, none⟩ 1 1 [.int .i64 P, .int .i64 Q] rfl rfl NEW.out (by simp [Value.oneCell']) (by decide) (by unfold maxLen; omega) (by omega) hsz ?_))
            intro v' w6 own6 hgrow _ hgr
            obtain ⟨A2, c2, rfl⟩ := own_form own6
            rw [flatL_app, ← HSU.out] at own6
            have y6 := (hgrow.block W4.heap.size (ltb Z5.out) (Ne.symm hne)).trans Z5.out
            have OWN6 := hid own6; have Y6 := hid y6
            have G6 := hid (hgr _ G5.out (Nat.le_refl _))
            obtain ⟨_, _, _⟩ := cells3 Y6.out
            have _ := fz Y6.out
            clear own6 y6 hgrow hgr OWN5 NEW hsz hne Y5 Z5
            go_wp2_with fail
            refine ⟨⟨k + 1, A2, c2, by simp, by omega, G6.out.setCell (by simp) _, by simpa using Joins.block_setCell (i := 2) Y6.out _, own_setS OWN6.out Y6.out _, fun i p' q' s' t' hi hp' hs' => ?_⟩, by simp [intOf]; omega⟩
            by_cases hik : i = k
            · subst hik
              have e1 := HP.out.symm.trans hp'
              have e2 := HS.out.symm.trans hs'
              cases e1
              cases e2
              exact HD.out
            · exact HOK.out i p' q' s' t' (by omega) hp' hs'
          | false =>
            have HD := hid hd
            have HPL := hid fun w => ssubv_f p q s t w HPQ.out HST.out HD.out
            have HNA : Hid (¬ AllC xs ys) := hid fun h => by have := h k p q s t HP.out HS.out; rw [HD.out] at this; cases this
            clear hd
            obtain ⟨_, _, _⟩ := cells3 Y8.out
            have _ := fz Y8.out
            have _ := ltb Y8.out
            obtain ⟨_, _, _⟩ := cells3 YB.out
            have _ := fz YB.out
            have _ := ltb YB.out
            go_wp2_with fail
            refine wp_reg1s #[.int .i64 0, .int .i64 0] 15 13 10 14 57 (by kernel_rfl) (by kernel_rfl) rfl rfl (by simp) rfl rfl (by decide) (fun _ _ => by kernel_rfl) (by kernel_rfl) ?_
            apply Exists.intro; apply Exists.intro
            refine ⟨fun wb hb => ?_, ?_⟩
            · obtain ⟨_, _, _⟩ := hb.at3 Y8.out
              obtain ⟨_, _, _⟩ := hb.at3 YB.out
              have _ := hb.atF C1.out; have _ := hb.atF C2.out; have _ := hb.atF D1.out; have _ := hb.atF D2.out
              simp only [headOps, List.contains, List.elem, Nat.reduceAdd, Nat.reduceBEq, reduceIte, Bool.false_eq_true, dumOp]
              repeat (first | go_big_quiet_step (first | (go_at_call 99; exact Calls.of_gr (HPL.out _))) | quiet_step (fail))
              exact wpQuiet_nil rfl
            refine ⟨rfl, ⟨rfl, by simp [Value.oneCell']⟩, fun w5 b5 hg5 _ xb5 => ?_⟩
            have G5 := hid (GV.out.trans hg5)
            have Y5 := hid (hg5.keep Y3.out)
            obtain ⟨_, _, _⟩ := cells3 Y5.out
            have _ := fz Y5.out
            have _ := ltb Y5.out
            clear hg5 xb5
            go_wp2_with fail
            refine bodyPost_ret (v := .tuple #[scl 0 0 none 0 0, .int .i64 3]) (by simp [results, Try.results48, go_sem, *]) rfl ?_
            exact .inr ⟨HNA.out, _, _, rfl, own_nilF _ _, ((G5.out.setCell (by simp <;> omega) _).setCell (by simp <;> omega) _).setCell (by simp <;> omega) _⟩
        · have hke : k = xs.length := by omega
          subst hke
          have htk : (csL xs ys).take xs.length = csL xs ys := by rw [← HLEN.out]; exact List.take_length
          rw [htk] at OWN
          have OWNL : Hid (wr.ownsRow W4.heap.size 25 2 (.slice A' (csL xs ys).length c') (csL xs ys).length (flatL (csL xs ys))) := hid (by rw [HLEN.out]; exact OWN.out)
          have RO := hid (RdF.of_ownF OWNL.out)
          have HEF : Hid (AllC xs ys) := hid fun k p q s t hp hs => HOK.out k p q s t (List.getElem?_eq_some_iff.1 hp).1 hp hs
          have Y9 : Hid (wr.heap[W4.heap.size]? = some (.cells #[.int .i64 a, .int .i64 b, .slice A' (csL xs ys).length c'] 76)) := hid (by rw [HLEN.out]; exact Y8.out)
          have hlen : (csL xs ys).length ≤ 1048576 := by rw [HLEN.out]; exact hn
          have HL := hid hlen
          clear htk hlen
          obtain ⟨_, _, _⟩ := cells3 Y8.out
          have _ := fz Y8.out
          have _ := ltb Y8.out
          obtain ⟨_, _, _⟩ := cells3 Y3.out
          have _ := fz Y3.out
          have _ := ltb Y3.out
          cases hsc : sclB a b (csL xs ys) with
          | true =>
            have HSC := hid hsc
            go_wp2_with fail
            refine (sScT a b A' c' _ (csL xs ys) _ Y9 RO HL.out HSC.out).mono ?_
            rintro e w7 ⟨rfl, hg7⟩
            have OWN7 := hid (own_gr OWN.out hg7); have Y7 := hid (hg7.keep Y8.out); have Z7 := hid (hg7.keep Y3.out); have G7 := hid (GV.out.trans hg7)
            clear hg7 hsc
            obtain ⟨_, _, _⟩ := cells3 Y7.out
            have _ := ltb Y7.out
            obtain ⟨_, _, _⟩ := cells3 Z7.out
            have _ := fz Z7.out
            have _ := ltb Z7.out
            go_wp2_with fail
            refine bodyPost_ret (v := .tuple #[scl a b A' xs.length c', .int .i64 0]) (by simp [results, Try.results48, go_sem, *]) rfl ?_
            exact .inl ⟨HEF.out, .inl ⟨HSC.out, A', c', by rw [HLEN.out], by rw [HLEN.out]; exact own_base (base' := w.heap.size) (own_low (own_low (own_low OWN7.out (by simpa using hb2) _) (by simpa using hb2) _) (by simpa using hb2) _) (by omega), ((G7.out.setCell (by simp <;> omega) _).setCell (by simp <;> omega) _).setCell (by simp <;> omega) _⟩⟩
          | false =>
            have HSC := hid hsc
            go_wp2_with fail
            refine (sScF a b A' c' _ (csL xs ys) _ Y9 RO HL.out HSC.out).mono ?_
            rintro e w7 ⟨rfl, hg7⟩
            have Z7 := hid (hg7.keep Y3.out); have G7 := hid (GV.out.trans hg7)
            clear hg7 hsc
            obtain ⟨_, _, _⟩ := cells3 Z7.out
            have _ := fz Z7.out
            have _ := ltb Z7.out
            go_wp2_with fail
            refine bodyPost_ret (v := .tuple #[scl 0 0 none 0 0, .int .i64 4]) (by simp [results, Try.results48, go_sem, *]) rfl ?_
            exact .inl ⟨HEF.out, .inr ⟨HSC.out, _, _, rfl, own_nilF _ _, ((G7.out.setCell (by simp <;> omega) _).setCell (by simp <;> omega) _).setCell (by simp <;> omega) _⟩⟩
theorem bothCorrectScale (a b : Int) (xs ys : List (Int × Int)) (hn : xs.length ≤ 1048576) (hm : ys.length ≤ 1048576) : ∃ (u v : Int) (zs : List (Int × Int)) (C : Int), zs.length ≤ 1048576 ∧
    (∀ (A B : Option Addr) (c d : Nat) (w : World), Hid (RdF w A xs) → Hid (RdF w B ys) → Calls Try.prog 48 #[scl a b A xs.length c, .slice B ys.length d] w fun e w' => GivesS w w' e u v zs C) ∧
    (∀ (A B : Option Addr) (c d : Nat) (w : World), Hid (RdF w A xs) → Hid (RdF w B ys) → Calls Try.prog 50 #[scl a b A xs.length c, .slice B ys.length d] w fun e w' => GivesS w w' e u v zs C) := by
  cases h1 : sclB a b xs with
  | false => exact ⟨0, 0, [], 1, by simp, fun A B c d w X Y => (sCS_0 a b A B c d xs ys w X hn hm h1).mono fun e w' h => gives0 h, fun A B c d w X Y => (iCS_0 a b A B c d xs ys w X hn h1).mono fun e w' h => gives0 h⟩
  | true =>
  cases h2 : allF ys with
  | false => exact ⟨0, 0, [], 1, by simp, fun A B c d w X Y => (sCS_1 a b A B c d xs ys w X Y hn hm h1 h2).mono fun e w' h => gives0 h, fun A B c d w X Y => (iCS_1 a b A B c d xs ys w X Y hn hm h1 h2).mono fun e w' h => gives0 h⟩
  | true =>
  by_cases h3 : ys.length = xs.length
  · rw [h3]
    by_cases hok : AllC xs ys
    · cases hsc : sclB a b (csL xs ys) with
      | true =>
        have pick : ∀ {w w' : World} {e : Ending}, ((AllC xs ys ∧ ((sclB a b (csL xs ys) = true ∧ GivesS w w' e a b (csL xs ys) 0) ∨ (sclB a b (csL xs ys) = false ∧ GivesS w w' e 0 0 [] 4))) ∨ (¬ AllC xs ys ∧ GivesS w w' e 0 0 [] 3)) → GivesS w w' e a b (csL xs ys) 0 := fun h =>
          h.elim (fun h => h.2.elim (fun h => h.2) (fun h => by rw [hsc] at h; cases h.1)) (fun h => absurd hok h.1)
        exact ⟨a, b, csL xs ys, 0, by rw [csL_len h3]; exact hn, fun A B c d w X Y => (sCS_4 a b A B c d xs ys w X Y h1 h2 (hid h3)).mono fun e w' h => pick h, fun A B c d w X Y => (iCS_4 a b A B c d xs ys w X Y h1 h2 (hid h3)).mono fun e w' h => pick h⟩
      | false =>
        have pick : ∀ {w w' : World} {e : Ending}, ((AllC xs ys ∧ ((sclB a b (csL xs ys) = true ∧ GivesS w w' e a b (csL xs ys) 0) ∨ (sclB a b (csL xs ys) = false ∧ GivesS w w' e 0 0 [] 4))) ∨ (¬ AllC xs ys ∧ GivesS w w' e 0 0 [] 3)) → GivesS w w' e 0 0 [] 4 := fun h =>
          h.elim (fun h => h.2.elim (fun h => by rw [hsc] at h; cases h.1) (fun h => h.2)) (fun h => absurd hok h.1)
        exact ⟨0, 0, [], 4, by simp, fun A B c d w X Y => (sCS_4 a b A B c d xs ys w X Y h1 h2 (hid h3)).mono fun e w' h => pick h, fun A B c d w X Y => (iCS_4 a b A B c d xs ys w X Y h1 h2 (hid h3)).mono fun e w' h => pick h⟩
    · exact ⟨0, 0, [], 3, by simp, fun A B c d w X Y => (sCS_4 a b A B c d xs ys w X Y h1 h2 (hid h3)).mono fun e w' h => h.elim (fun h => absurd h.1 hok) (fun h => h.2), fun A B c d w X Y => (iCS_4 a b A B c d xs ys w X Y h1 h2 (hid h3)).mono fun e w' h => h.elim (fun h => absurd h.1 hok) (fun h => h.2)⟩
  · exact ⟨0, 0, [], 2, by simp, fun A B c d w X Y => (sCS_2 a b A B c d xs ys w X Y hn hm h1 h2 h3).mono fun e w' h => gives0 h, fun A B c d w X Y => (iCS_2 a b A B c d xs ys w X Y hn hm h1 h2 h3).mono fun e w' h => gives0 h⟩
end Go.Proofs.Yteeadoglbkociaa
