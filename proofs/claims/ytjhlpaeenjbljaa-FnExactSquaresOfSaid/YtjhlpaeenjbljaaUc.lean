/- RESIDUALS: of the program: one observation's, and all of them. -/
import Derived.Test.YtjhlpaeenjbljaaUb
import Derived.Test.YtjhlpaeenjbljaaSe
namespace Go.Proofs.Ytjhlpaeenjbljaa
open Go.RowKit Go.Sort

theorem itwm_t (a b c : Int) (w : World) (h1 : okB a b = true) (hc : okB c 1 = true) (h : mlB c 1 a b = true) :
    Calls Try.prog 85 #[fr a b, .int .i64 c] w fun e w' => e = .returned (fr (mlP c 1 a b) (mlQ c 1 a b)) ∧ Gr w w' := itw_ok a b c w h1 hc h
theorem itwm_f (a b c : Int) (w : World) (h1 : okB a b = true) (hc : okB c 1 = true) (h : mlB c 1 a b = false) :
    Calls Try.prog 85 #[fr a b, .int .i64 c] w fun e w' => (∃ x y, e = .panicked [{ v := .iface 138 (fr x y), recovered := false }]) ∧ Gr w w' := itw_bad a b c w h1 hc h
theorem box_cell {w : World} {g k : Nat} {x : Obv} {T : TypeId} (h : w.heap[g]? = some (.cells #[.int .i8 x.c0, .int .i8 x.c1, .int .i8 x.c2, .int .i8 x.c3, .int .i8 x.c4, .int .i8 x.c5, .int .i64 x.p, .int .i64 x.q, .int .i64 x.t] T)) (hk : k < 6) : w.cell? ⟨g, k, none⟩ = some (.int .i8 (coAt x k)) := by
  obtain ⟨h0, h1, h2, h3, h4, h5, _, _, _⟩ := cells9 h
  rcases (show k = 0 ∨ k = 1 ∨ k = 2 ∨ k = 3 ∨ k = 4 ∨ k = 5 by omega) with rfl | rfl | rfl | rfl | rfl | rfl <;> simp [coAt, coL] <;> assumption
set_option maxRecDepth 20000 in
set_option maxHeartbeats 2000000 in
theorem iresid (x : Obv) (ys : List (Int × Int)) (A B : Option Addr) (m c d k1 k2 : Nat) (tb : Bool) (tp tq : Int) (T1 T2 : TypeId) (w : World) (X1 : Hid (w.heap[k1]? = some (.cells #[.int .i64 (ys.length : Int), .slice A m c, .bool tb, .int .i64 tp, .int .i64 tq] T1))) (X2 : Hid (w.heap[k2]? = some (.cells #[.slice B ys.length d] T2))) (Y : Hid (RdF w B ys)) (hob : obB x ys.length = true) (hl : ys.length ≤ 6) (hall : allF ys = true) :
    Calls Try.prog 151 #[vO x, .pointer (some ⟨k1, 0, none⟩), .pointer (some ⟨k2, 0, none⟩)] w fun e w' => ((∃ u v, rsd x ys ys.length = some (u, v) ∧ e = .returned (fr u v)) ∨ (rsd x ys ys.length = none ∧ ∃ a b, e = .panicked [{ v := .iface 138 (fr a b), recovered := false }])) ∧ Gr w w' := by
  have HOB := hid hob; have HALL := hid hall; clear hob hall
  obtain ⟨_, _, _, _, _⟩ := cells5 X1.out
  have _ := cells1 X2.out
  have hk1 := ltb X1.out; have hk2 := ltb X2.out
  have _ : k1 < w.heap.size + 1 := by omega
  have _ : k1 < w.heap.size + 1 + 1 := by omega
  have _ : k2 < w.heap.size + 1 := by omega
  have _ : k2 < w.heap.size + 1 + 1 := by omega
  have hl6 : (ys.length : Int) ≤ 6 := by omega
  have hl0 : (0 : Int) ≤ (ys.length : Int) := by omega
  go_enter Try.func151, Try.ntmps151
  go_wp2_with fail
  go_loopw [15] (fun U wr => ∃ (k : Nat) (u v : Int), U = .int .i64 (k : Int) ∧ k ≤ ys.length ∧ Gr w wr ∧ wr.heap[w.heap.size]? = some (.cells #[.int .i8 x.c0, .int .i8 x.c1, .int .i8 x.c2, .int .i8 x.c3, .int .i8 x.c4, .int .i8 x.c5, .int .i64 x.p, .int .i64 x.q, .int .i64 x.t] 104) ∧ wr.heap[w.heap.size + 1]? = some (.cells #[.int .i64 0, .int .i64 0] 24) ∧ wr.heap[w.heap.size + 1 + 1]? = some (.cells #[.int .i64 u, .int .i64 v] 24) ∧ rsd x ys k = some (u, v)) (fun U _ => ys.length - (intOf U).toNat)
  case atStart => exact ⟨0, x.p, x.q, rfl, by omega, (((Gr.refl _).al _).al _).al _, (alloc3 (Gr.refl _)).1, (alloc3 (Gr.refl _)).2.1, (alloc3 (Gr.refl _)).2.2.1, rfl⟩
  case round =>
    obtain ⟨k, u, v, rfl, hk, g0, y0, y1, y2, hs⟩ := hrel
    have GW := hid g0; have Y0 := hid y0; have Y1 := hid y1; have Y2 := hid y2; have HS := hid hs
    have Z1 := hid (g0.keep X1.out); have Z2 := hid (g0.keep X2.out)
    clear g0 y0 y1 y2 hs
    by_cases hlt : k < ys.length
    · obtain ⟨⟨a, b⟩, hab⟩ : ∃ pq, ys[k]? = some pq := ⟨ys[k], List.getElem?_eq_getElem _⟩
      have HAB := hid (allF_get HALL.out hab)
      have HY := hid hab
      obtain ⟨ad, rfl, c1, c2⟩ := (Y.out.keep GW.out) k a b hab
      have C1 := hid c1; have C2 := hid c2
      have hk6 : k < 6 := by omega
      obtain ⟨cb1, cb2⟩ := co_rg HOB.out hk6
      have hc := box_cell Y0.out hk6
      have HOK := hid (rsd_ok (ob_ok HOB.out).1 k u v HS.out)
      by_cases hz : coAt x k = 0
      · have HS1 := hid (rsd_zero HS.out hz)
        rw [hz] at hc
        clear hz cb1 cb2 c1 c2 hab
        obtain ⟨_, _⟩ := cells2 Y1.out
        have _ := fz Y1.out
        have _ := ltb Y1.out
        obtain ⟨_, _⟩ := cells2 Y2.out
        have _ := fz Y2.out
        have _ := ltb Y2.out
        obtain ⟨_, _, _, _, _⟩ := cells5 Z1.out
        have _ := fz Z1.out
        have _ := ltb Z1.out
        have _ := cells1 Z2.out
        have _ := fz Z2.out
        have _ := ltb Z2.out
        go_wp2_with fail
        exact ⟨⟨k + 1, u, v, by simp, by omega, GW.out, Y0.out, Y1.out, Y2.out, HS1.out⟩, by simp [intOf]; omega⟩
      · cases hls : lsB u v (coAt x k) 1 a b with
        | true =>
          have hs1 := rsd_t HS.out HY.out hz hls
          obtain ⟨hm, hsb⟩ := lsB_all hls
          have htw := fun w => itwm_t a b (coAt x k) w HAB.out (ok_whole (by omega) (by omega)) hm
          have hmn := fun w => minusv_t u v (mlP (coAt x k) 1 a b) (mlQ (coAt x k) 1 a b) w HOK.out hm hsb
          unfold lsP lsQ at hs1
          generalize coAt x k = c at *
          generalize mlP c 1 a b = M at *
          generalize mlQ c 1 a b = N at *
          generalize sbP u v M N = P at *
          generalize sbQ u v M N = Q at *
          have hz2 : (c == 0) = false := by simpa using hz
          have HTW := hid htw; have HMN := hid hmn; have HS2 := hid hs1
          clear hs1 htw hmn hls hm hsb c1 c2 hab hz
          obtain ⟨_, _⟩ := cells2 Y1.out
          have _ := fz Y1.out
          have _ := ltb Y1.out
          obtain ⟨_, _⟩ := cells2 Y2.out
          have _ := fz Y2.out
          have _ := ltb Y2.out
          obtain ⟨_, _, _, _, _⟩ := cells5 Z1.out
          have _ := fz Z1.out
          have _ := ltb Z1.out
          have _ := cells1 Z2.out
          have _ := fz Z2.out
          have _ := ltb Z2.out
          have _ := ltb Y0.out
          go_wp2_with fail
          refine wp_reg0 9 (by kernel_rfl) (by kernel_rfl) ?_
          apply Exists.intro
          refine ⟨fun wb hb => ?_, ?_⟩
          · obtain ⟨_, _⟩ := hb.at2 Y1.out
            obtain ⟨_, _⟩ := hb.at2 Y2.out
            obtain ⟨_, _, _, _, _⟩ := hb.at5 Z1.out
            have _ := hb.at1 Z2.out
            have _ := hb.atF C1.out; have _ := hb.atF C2.out
            simp only [headOps, List.contains, List.elem, reduceIte, Bool.false_eq_true]
            repeat (first | go_big_quiet_step (first | (go_at_call 85; exact Calls.of_gr (HTW.out _)) | (go_at_call 137; exact Calls.of_gr (HMN.out _))) | quiet_step (fail))
            exact wpQuiet_nil rfl
          intro w1 hg1
          have x1_1 := hg1.keep Y1.out
          have x1_2 := hg1.keep Y2.out
          have x1_3 := hg1.keep Z1.out
          have x1_4 := hg1.keep Z2.out
          have x1_5 := hg1.keep Y0.out
          obtain ⟨_, _⟩ := cells2 x1_1
          have _ := fz x1_1
          have _ := ltb x1_1
          obtain ⟨_, _⟩ := cells2 x1_2
          have _ := fz x1_2
          have _ := ltb x1_2
          obtain ⟨_, _, _, _, _⟩ := cells5 x1_3
          have _ := fz x1_3
          have _ := ltb x1_3
          have _ := cells1 x1_4
          have _ := fz x1_4
          have _ := ltb x1_4
          have _ := ltb x1_5
          have X1_1 := hid x1_1; clear x1_1
          have X1_2 := hid x1_2; clear x1_2
          have X1_3 := hid x1_3; clear x1_3
          have X1_4 := hid x1_4; clear x1_4
          have X1_5 := hid x1_5; clear x1_5
          have G1 := hid (GW.out.trans hg1)
          clear hg1
          go_wp2_with fail
          exact ⟨⟨k + 1, P, Q, by simp, by omega, (G1.out.setCell (by simp; omega) _).setCell (by simp; omega) _, set2_old X1_5.out (by omega), set2_old X1_1.out (by omega), set2_new X1_2.out, HS2.out⟩, by simp [intOf]; omega⟩
        | false =>
          have HS1 := hid (rsd_none (rsd_f HS.out HY.out hz hls) ys.length (by omega))
          cases hm : mlB (coAt x k) 1 a b with
          | false =>
            have htw := fun w => itwm_f a b (coAt x k) w HAB.out (ok_whole (by omega) (by omega)) hm
            generalize coAt x k = c at *
            have hz2 : (c == 0) = false := by simpa using hz
            have HTW := hid htw
            clear htw hls hm c1 c2 hab hz
            obtain ⟨_, _⟩ := cells2 Y1.out
            have _ := fz Y1.out
            have _ := ltb Y1.out
            obtain ⟨_, _⟩ := cells2 Y2.out
            have _ := fz Y2.out
            have _ := ltb Y2.out
            obtain ⟨_, _, _, _, _⟩ := cells5 Z1.out
            have _ := fz Z1.out
            have _ := ltb Z1.out
            have _ := cells1 Z2.out
            have _ := fz Z2.out
            have _ := ltb Z2.out
            go_wp2_with fail
            refine wp_regP 7 [8, 9] (by kernel_rfl) (by kernel_rfl) rfl ?_
            apply Exists.intro
            refine ⟨85, #[fr a b, .int .i64 c], fun wb hb => ?_, ?_⟩
            · obtain ⟨_, _⟩ := hb.at2 Y1.out
              obtain ⟨_, _⟩ := hb.at2 Y2.out
              obtain ⟨_, _, _, _, _⟩ := hb.at5 Z1.out
              have _ := hb.at1 Z2.out
              have _ := hb.atF C1.out; have _ := hb.atF C2.out
              simp only [headOps, List.contains, List.elem, List.length_cons, List.length_nil, Nat.zero_add, Nat.reduceAdd, Nat.reduceBEq, reduceIte, Bool.false_eq_true, dumOp]
              repeat (first | go_big_quiet_step (first | (fail)) | quiet_step (fail))
              exact wpQuiet_nil rfl
            refine ⟨fun w' => by kernel_rfl, fun w' hg' => (HTW.out w').mono fun e w2 ⟨⟨x, y, he⟩, hg2⟩ => ⟨_, he, fun a' ha' => ⟨ha', .inr ⟨HS1.out, x, y, rfl⟩, (GW.out.trans hg').trans hg2⟩⟩⟩
          | true =>
            have hsb : sbB u v (mlP (coAt x k) 1 a b) (mlQ (coAt x k) 1 a b) = false := by unfold lsB at hls; rw [hm] at hls; simpa using hls
            have htw := fun w => itwm_t a b (coAt x k) w HAB.out (ok_whole (by omega) (by omega)) hm
            have hmn := fun w => minusv_f u v (mlP (coAt x k) 1 a b) (mlQ (coAt x k) 1 a b) w HOK.out hm hsb
            generalize coAt x k = c at *
            generalize mlP c 1 a b = M at *
            generalize mlQ c 1 a b = N at *
            have hz2 : (c == 0) = false := by simpa using hz
            have HTW := hid htw; have HMN := hid hmn
            clear htw hmn hls hm hsb c1 c2 hab hz
            obtain ⟨_, _⟩ := cells2 Y1.out
            have _ := fz Y1.out
            have _ := ltb Y1.out
            obtain ⟨_, _⟩ := cells2 Y2.out
            have _ := fz Y2.out
            have _ := ltb Y2.out
            obtain ⟨_, _, _, _, _⟩ := cells5 Z1.out
            have _ := fz Z1.out
            have _ := ltb Z1.out
            have _ := cells1 Z2.out
            have _ := fz Z2.out
            have _ := ltb Z2.out
            go_wp2_with fail
            refine wp_regP 8 [9] (by kernel_rfl) (by kernel_rfl) rfl ?_
            apply Exists.intro
            refine ⟨137, #[fr u v, fr M N], fun wb hb => ?_, ?_⟩
            · obtain ⟨_, _⟩ := hb.at2 Y1.out
              obtain ⟨_, _⟩ := hb.at2 Y2.out
              obtain ⟨_, _, _, _, _⟩ := hb.at5 Z1.out
              have _ := hb.at1 Z2.out
              have _ := hb.atF C1.out; have _ := hb.atF C2.out
              simp only [headOps, List.contains, List.elem, List.length_cons, List.length_nil, Nat.zero_add, Nat.reduceAdd, Nat.reduceBEq, reduceIte, Bool.false_eq_true, dumOp]
              repeat (first | go_big_quiet_step (first | (go_at_call 85; exact Calls.of_gr (HTW.out _))) | quiet_step (fail))
              exact wpQuiet_nil rfl
            refine ⟨fun w' => by kernel_rfl, fun w' hg' => (HMN.out w').mono fun e w2 ⟨⟨x, y, he⟩, hg2⟩ => ⟨_, he, fun a' ha' => ⟨ha', .inr ⟨HS1.out, x, y, rfl⟩, (GW.out.trans hg').trans hg2⟩⟩⟩
    · have hke : k = ys.length := by omega
      subst hke
      obtain ⟨_, _⟩ := cells2 Y1.out
      have _ := fz Y1.out
      have _ := ltb Y1.out
      obtain ⟨_, _⟩ := cells2 Y2.out
      have _ := fz Y2.out
      have _ := ltb Y2.out
      go_wp2_with fail
      refine bodyPost_ret (v := fr u v) (by simp [results, Try.results151, go_sem, *]) rfl ?_
      exact ⟨.inl ⟨u, v, HS.out, rfl⟩, (GW.out.setCell (by first | (simp; done) | (simp; omega)) _).setCell (by first | (simp; done) | (simp; omega)) _⟩
set_option maxRecDepth 20000 in
set_option maxHeartbeats 400000 in
theorem iresBy (n : Int) (A B : Option Addr) (m c l d : Nat) (b : Bool) (p q : Int) (w : World) :
    Calls Try.prog 123 #[tbl n A m c b p q, .slice B l d] w fun e w' => e = .returned (.func (.func 151) #[] #[.pointer (some ⟨w.heap.size, 0, none⟩), .pointer (some ⟨w.heap.size + 1, 0, none⟩)]) ∧ w' = (w.alloc (.cells #[.int .i64 n, .slice A m c, .bool b, .int .i64 p, .int .i64 q] 50)).alloc (.cells #[.slice B l d] 25) := by
  go_enter Try.func123, Try.ntmps123
  go_wp2
  go_ret
  exact ⟨by simp, rfl⟩
set_option maxRecDepth 20000 in
set_option maxHeartbeats 2000000 in
theorem iresids (A B : Option Addr) (c d : Nat) (b : Bool) (p q : Int) (xs : List Obv) (ys : List (Int × Int)) (w : World) (X : Hid (RdO w A xs)) (Y : Hid (RdF w B ys)) (hl : xs.length ≤ 24) (hl6 : ys.length ≤ 6) (hob : xs.all (fun x => obB x ys.length) = true) (hall : allF ys = true) :
    Calls Try.prog 80 #[tbl (ys.length : Int) A xs.length c b p q, .slice B ys.length d] w fun e w' => ((RsdAll xs ys ∧ ∃ A' c', e = .returned (.slice A' xs.length c') ∧ w'.ownsRow w.heap.size 24 2 (.slice A' xs.length c') xs.length (flatL (rsdL xs ys))) ∨ (¬ RsdAll xs ys ∧ ∃ x y, e = .panicked [{ v := .iface 138 (fr x y), recovered := false }])) ∧ Gr w w' := by
  obtain ⟨i0, hi, hz0, hz1, hz2⟩ : ∃ i, Try.prog.info? 24 = some i ∧ i.zero = some (fr 0 0) ∧ i.size = 2 ∧ i.bytes = 16 := ⟨_, rfl, rfl, rfl, rfl⟩
  have hen : ∀ (x : Obv) (k1 k2 : Nat) (w : World), (callFunc 151 #[vO x, .pointer (some ⟨k1, 0, none⟩), .pointer (some ⟨k2, 0, none⟩)]).run Try.prog w = .ok (.enter 151 #[vO x, .pointer (some ⟨k1, 0, none⟩), .pointer (some ⟨k2, 0, none⟩)]) w := fun _ _ _ _ => by kernel_rfl
  have HEN := hid hen
  have HOB := hid hob; have HALL := hid hall; clear hob hall hen
  go_enter Try.func80, Try.ntmps80
  go_wp2_with fail
  refine (iresBy _ _ _ _ _ _ _ _ _ _ _).mono ?_
  rintro e w1 ⟨rfl, hw1⟩
  have g1 : Gr (w.alloc (.cells #[.int .i64 (ys.length : Int), .slice A xs.length c, .bool b, .int .i64 p, .int .i64 q] 50)) w1 := by subst hw1; exact ((Gr.refl _).al _).al _
  have hs1 : w1.heap.size = w.heap.size + 3 := by subst hw1; simp
  have Z1 : Hid (w1.heap[w.heap.size + 1]? = some (.cells #[.int .i64 (ys.length : Int), .slice A xs.length c, .bool b, .int .i64 p, .int .i64 q] 50)) := hid (by subst hw1; have := (alloc2 (w := w.alloc (.cells #[.int .i64 (ys.length : Int), .slice A xs.length c, .bool b, .int .i64 p, .int .i64 q] 50)) (A := .cells #[.int .i64 (ys.length : Int), .slice A xs.length c, .bool b, .int .i64 p, .int .i64 q] 50) (B := .cells #[.slice B ys.length d] 25) (Gr.refl _)).1; simpa using this)
  have Z2 : Hid (w1.heap[w.heap.size + 1 + 1]? = some (.cells #[.slice B ys.length d] 25)) := hid (by subst hw1; have := (alloc2 (w := w.alloc (.cells #[.int .i64 (ys.length : Int), .slice A xs.length c, .bool b, .int .i64 p, .int .i64 q] 50)) (A := .cells #[.int .i64 (ys.length : Int), .slice A xs.length c, .bool b, .int .i64 p, .int .i64 q] 50) (B := .cells #[.slice B ys.length d] 25) (Gr.refl _)).2.1; simpa using this)
  obtain ⟨x0, _, gw1⟩ := alloc1 g1
  obtain ⟨_, _, _, _, _⟩ := cells5 x0
  have _ := ltb x0
  have G1 := hid gw1; have HSZ1 := hid hs1
  clear g1 gw1 hw1 hs1
  go_wp2_with fail
  go_loopw [6, 15] (fun v U wr => ∃ (k : Nat) (A' : Option Addr) (c' : Nat), U = .int .i64 (k : Int) ∧ v = .slice A' k c' ∧ k ≤ xs.length ∧ Gr w1 wr ∧ wr.ownsRow w1.heap.size 24 2 (.slice A' k c') k (flatL ((rsdL xs ys).take k)) ∧ (∀ (i : Nat) (x : Obv), i < k → xs[i]? = some x → ∃ u v, rsd x ys ys.length = some (u, v))) (fun _ U _ => xs.length - (intOf U).toNat)
  case atStart => exact ⟨0, none, 0, rfl, rfl, by omega, Gr.refl _, own_nilF _ _, fun i x h => by omega⟩
  case round =>
    obtain ⟨k, A', c', rfl, rfl, hk, hg, hown, hdone⟩ := hrel
    have GW := hid hg; have OWN := hid hown; have HD := hid hdone; have GV := hid (G1.out.trans hg)
    have Y1 := hid (hg.keep Z1.out); have Y2 := hid (hg.keep Z2.out)
    have hwr := hg.size
    clear hg hown hdone
    by_cases hlt : k < xs.length
    · obtain ⟨x, hx⟩ : ∃ x, xs[k]? = some x := ⟨xs[k], List.getElem?_eq_getElem _⟩
      have HX := hid hx
      obtain ⟨ad, rfl, hcel⟩ := (X.out.keep GV.out) k x hx
      have HXO := hid (allO_get hx HOB.out)
      obtain ⟨_, _, _, _, _, _, _, _, _⟩ := hcel
      have hen := HEN.out x (w.heap.size + 1) (w.heap.size + 1 + 1)
      clear hx
      go_wp2_with fail
      refine (iresid x ys (some ad) B xs.length c d (w.heap.size + 1) (w.heap.size + 1 + 1) b p q _ _ _ (hid (((Gr.refl _).al _).keep Y1.out)) (hid (((Gr.refl _).al _).keep Y2.out)) (hid (Y.out.keep (GV.out.al _))) HXO.out hl6 HALL.out).mono ?_
      rintro e w2 ⟨⟨u, v, hr, rfl⟩ | ⟨hr, x', y', rfl⟩, hg2⟩
      · have HR := hid hr
        have OWN2 := hid (own_gr OWN.out (((Gr.refl wr).al (.cells #[.int .i8 x.c0, .int .i8 x.c1, .int .i8 x.c2, .int .i8 x.c3, .int .i8 x.c4, .int .i8 x.c5, .int .i64 x.p, .int .i64 x.q, .int .i64 x.t] 104)).trans (hg2.al (.cells #[.int .i64 u, .int .i64 v] 24))))
        have NEW := hid (one_newsF (w := w2.alloc (.cells #[.int .i64 u, .int .i64 v] 24)) (b := w2.heap.size) (alloc1 (Gr.refl _)).1)
        have G2 := hid ((GW.out.al (.cells #[.int .i8 x.c0, .int .i8 x.c1, .int .i8 x.c2, .int .i8 x.c3, .int .i8 x.c4, .int .i8 x.c5, .int .i64 x.p, .int .i64 x.q, .int .i64 x.t] 104)).trans (hg2.al (.cells #[.int .i64 u, .int .i64 v] 24)))
        have HTK := hid (rsdL_take HX.out HR.out)
        have hsz := G2.out.size
        clear hg2 hr OWN hen
        go_wp2_with (at_builtin; refine (wpList_append_gr rfl _ _ 25 rfl w1.heap.size 24 i0 (fr 0 0) 2 16 Try.underlying25 hi hz0 hz1 hz2 rfl (by decide) _ k _ rfl OWN2.out ⟨w2.heap.size, 0, none⟩ 1 1 [.int .i64 u, .int .i64 v] rfl rfl NEW.out (by simp [Value.oneCell']) (by decide) (by unfold maxLen; omega) (by omega) hsz ?_))
        intro v' w4 own4 _ _ hgr
        obtain ⟨A2, c2, rfl⟩ := own_form own4
        rw [flatL_app, ← HTK.out] at own4
        have OWN4 := hid own4
        have G4 := hid (hgr _ G2.out (Nat.le_refl _))
        clear own4 hgr OWN2 NEW hsz
        go_wp2_with fail
        refine ⟨⟨k + 1, A2, c2, by simp, by simp, by omega, G4.out, OWN4.out, fun i x' hi hx' => ?_⟩, by simp [intOf]; omega⟩
        by_cases hik : i = k
        · subst hik
          have := HX.out.symm.trans hx'
          cases this
          exact ⟨u, v, HR.out⟩
        · exact HD.out i x' (by omega) hx'
      · have HR := hid hr
        have G2 := hid ((GV.out.al (.cells #[.int .i8 x.c0, .int .i8 x.c1, .int .i8 x.c2, .int .i8 x.c3, .int .i8 x.c4, .int .i8 x.c5, .int .i64 x.p, .int .i64 x.q, .int .i64 x.t] 104)).trans hg2)
        clear hr hg2 hen
        exact ⟨rfl, .inr ⟨fun h => (by obtain ⟨u, v, h⟩ := h k x HX.out; rw [HR.out] at h; cases h), x', y', rfl⟩, G2.out⟩
    · have hke : k = xs.length := by omega
      subst hke
      go_wp2_with fail
      go_ret
      have h := OWN.out
      rw [← rsdL_len xs ys, List.take_length, rsdL_len] at h
      exact ⟨.inl ⟨fun k x hx => HD.out k x (List.getElem?_eq_some_iff.1 hx).1 hx, A', c', rfl, own_base h (by have := HSZ1.out; omega)⟩, GV.out⟩
end Go.Proofs.Ytjhlpaeenjbljaa
