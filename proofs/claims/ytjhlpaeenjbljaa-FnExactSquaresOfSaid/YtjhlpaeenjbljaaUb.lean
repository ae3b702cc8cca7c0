/- RESIDUALS: of the reference: one observation's, and all of them. -/
import Derived.Test.YtjhlpaeenjbljaaUa
import Derived.Test.YtjhlpaeenjbljaaSf
import Derived.Test.YtjhlpaeenjbljaaEg
namespace Go.Proofs.Ytjhlpaeenjbljaa
open Go.RowKit Go.Sort

theorem smulm_t (s t a b : Int) (w : World) (h1 : okB s t = true) (h2 : okB a b = true) (h : mlB s t a b = true) :
    Calls Try.prog 63 #[fr s t, fr a b] w fun e w' => e = .returned (.tuple #[fr (mlP s t a b) (mlQ s t a b), .int .i64 0]) ∧ Gr w w' := smul_t s t a b w h1 h2 h
theorem smulm_f (s t a b : Int) (w : World) (h1 : okB s t = true) (h2 : okB a b = true) (h : mlB s t a b = false) :
    Calls Try.prog 63 #[fr s t, fr a b] w fun e w' => e = .returned (.tuple #[fr 0 0, .int .i64 3]) ∧ Gr w w' := smul_f s t a b w h1 h2 h
set_option maxRecDepth 20000 in
set_option maxHeartbeats 400000 in
theorem sless_t (u v s t a b : Int) (w : World) (h1 : okB u v = true) (h2 : okB s t = true) (h3 : okB a b = true) (h : lsB u v s t a b = true) :
    Calls Try.prog 99 #[fr u v, fr s t, fr a b] w fun e w' => e = .returned (.tuple #[fr (lsP u v s t a b) (lsQ u v s t a b), .int .i64 0]) ∧ Gr w w' := by
  obtain ⟨hm, hs⟩ := lsB_all h
  have hm1 := fun w => smulm_t s t a b w h2 h3 hm
  have hs1 := fun w => ssubv_t u v (mlP s t a b) (mlQ s t a b) w h1 hm hs
  unfold lsP lsQ
  generalize mlP s t a b = P at *
  generalize mlQ s t a b = Q at *
  generalize sbP u v P Q = X at *
  generalize sbQ u v P Q = Y at *
  have HM := hid hm1; have HS := hid hs1
  clear h hm hs hm1 hs1 h1 h2 h3
  go_enter Try.func99, Try.ntmps99
  go_wp2_with fail
  refine (HM.out _).mono ?_
  rintro e w1 ⟨rfl, hg1⟩
  obtain ⟨x1_0, x1_1, x1_2, x1_3, hz1, g1⟩ := alloc4 hg1
  obtain ⟨_, _⟩ := cells2 x1_0
  have _ := fz x1_0
  have _ := ltb x1_0
  obtain ⟨_, _⟩ := cells2 x1_1
  have _ := fz x1_1
  have _ := ltb x1_1
  obtain ⟨_, _⟩ := cells2 x1_2
  have _ := fz x1_2
  have _ := ltb x1_2
  obtain ⟨_, _⟩ := cells2 x1_3
  have _ := fz x1_3
  have _ := ltb x1_3
  have X1_0 := hid x1_0; clear x1_0
  have X1_1 := hid x1_1; clear x1_1
  have X1_2 := hid x1_2; clear x1_2
  have X1_3 := hid x1_3; clear x1_3
  have G1 := hid (g1)
  clear hg1 g1
  go_wp2_with fail
  refine (HS.out _).mono ?_
  rintro e w2 ⟨rfl, hg2⟩
  obtain ⟨x2_0, hz2, g2⟩ := alloc1 hg2
  have x2_1 := g2.keep X1_0.out
  have x2_2 := g2.keep X1_1.out
  have x2_3 := g2.keep X1_2.out
  have x2_4 := g2.keep X1_3.out
  obtain ⟨_, _⟩ := cells2 x2_1
  have _ := fz x2_1
  have _ := ltb x2_1
  obtain ⟨_, _⟩ := cells2 x2_2
  have _ := fz x2_2
  have _ := ltb x2_2
  obtain ⟨_, _⟩ := cells2 x2_3
  have _ := fz x2_3
  have _ := ltb x2_3
  obtain ⟨_, _⟩ := cells2 x2_4
  have _ := fz x2_4
  have _ := ltb x2_4
  obtain ⟨_, _⟩ := cells2 x2_0
  have _ := fz x2_0
  have _ := ltb x2_0
  have X2_1 := hid x2_1; clear x2_1
  have X2_2 := hid x2_2; clear x2_2
  have X2_3 := hid x2_3; clear x2_3
  have X2_4 := hid x2_4; clear x2_4
  have X2_0 := hid x2_0; clear x2_0
  have G2 := hid (G1.out.trans g2)
  clear hg2 g2
  go_wp2
  refine bodyPost_ret (v := .tuple #[fr X Y, .int .i64 0]) (by simp [results, Try.results99, go_sem, *]) rfl ⟨rfl, ?_⟩
  exact ((G2.out).setCell (by simp <;> omega) _).setCell (by simp <;> omega) _
set_option maxRecDepth 20000 in
set_option maxHeartbeats 400000 in
theorem sless_f (u v s t a b : Int) (w : World) (h1 : okB u v = true) (h2 : okB s t = true) (h3 : okB a b = true) (h : lsB u v s t a b = false) :
    Calls Try.prog 99 #[fr u v, fr s t, fr a b] w fun e w' => e = .returned (.tuple #[fr 0 0, .int .i64 3]) ∧ Gr w w' := by
  cases hm : mlB s t a b with
  | false =>
    have HM := hid (fun w => smulm_f s t a b w h2 h3 hm)
    clear h hm h1 h2 h3
    go_enter Try.func99, Try.ntmps99
    go_wp2_with fail
    refine (HM.out _).mono ?_
    rintro e w1 ⟨rfl, hg1⟩
    obtain ⟨x1_0, x1_1, x1_2, x1_3, hz1, g1⟩ := alloc4 hg1
    obtain ⟨_, _⟩ := cells2 x1_0
    have _ := fz x1_0
    have _ := ltb x1_0
    obtain ⟨_, _⟩ := cells2 x1_1
    have _ := fz x1_1
    have _ := ltb x1_1
    obtain ⟨_, _⟩ := cells2 x1_2
    have _ := fz x1_2
    have _ := ltb x1_2
    obtain ⟨_, _⟩ := cells2 x1_3
    have _ := fz x1_3
    have _ := ltb x1_3
    have X1_0 := hid x1_0; clear x1_0
    have X1_1 := hid x1_1; clear x1_1
    have X1_2 := hid x1_2; clear x1_2
    have X1_3 := hid x1_3; clear x1_3
    have G1 := hid (g1)
    clear hg1 g1
    go_wp2
    refine bodyPost_ret (v := .tuple #[fr 0 0, .int .i64 3]) (by simp [results, Try.results99, go_sem, *]) rfl ⟨rfl, ?_⟩
    exact (((G1.out).setCell (by simp <;> omega) _).setCell (by simp <;> omega) _).al _
  | true =>
    have hs : sbB u v (mlP s t a b) (mlQ s t a b) = false := by unfold lsB at h; rw [hm] at h; simpa using h
    have hm1 := fun w => smulm_t s t a b w h2 h3 hm
    have hs1 := fun w => ssubv_f u v (mlP s t a b) (mlQ s t a b) w h1 hm hs
    generalize mlP s t a b = P at *
    generalize mlQ s t a b = Q at *
    have HM := hid hm1; have HS := hid hs1
    clear h hm hs hm1 hs1 h1 h2 h3
    go_enter Try.func99, Try.ntmps99
    go_wp2_with fail
    refine (HM.out _).mono ?_
    rintro e w1 ⟨rfl, hg1⟩
    obtain ⟨x1_0, x1_1, x1_2, x1_3, hz1, g1⟩ := alloc4 hg1
    obtain ⟨_, _⟩ := cells2 x1_0
    have _ := fz x1_0
    have _ := ltb x1_0
    obtain ⟨_, _⟩ := cells2 x1_1
    have _ := fz x1_1
    have _ := ltb x1_1
    obtain ⟨_, _⟩ := cells2 x1_2
    have _ := fz x1_2
    have _ := ltb x1_2
    obtain ⟨_, _⟩ := cells2 x1_3
    have _ := fz x1_3
    have _ := ltb x1_3
    have X1_0 := hid x1_0; clear x1_0
    have X1_1 := hid x1_1; clear x1_1
    have X1_2 := hid x1_2; clear x1_2
    have X1_3 := hid x1_3; clear x1_3
    have G1 := hid (g1)
    clear hg1 g1
    go_wp2_with fail
    refine (HS.out _).mono ?_
    rintro e w2 ⟨rfl, hg2⟩
    obtain ⟨x2_0, hz2, g2⟩ := alloc1 hg2
    have x2_1 := g2.keep X1_0.out
    have x2_2 := g2.keep X1_1.out
    have x2_3 := g2.keep X1_2.out
    have x2_4 := g2.keep X1_3.out
    obtain ⟨_, _⟩ := cells2 x2_1
    have _ := fz x2_1
    have _ := ltb x2_1
    obtain ⟨_, _⟩ := cells2 x2_2
    have _ := fz x2_2
    have _ := ltb x2_2
    obtain ⟨_, _⟩ := cells2 x2_3
    have _ := fz x2_3
    have _ := ltb x2_3
    obtain ⟨_, _⟩ := cells2 x2_4
    have _ := fz x2_4
    have _ := ltb x2_4
    obtain ⟨_, _⟩ := cells2 x2_0
    have _ := fz x2_0
    have _ := ltb x2_0
    have X2_1 := hid x2_1; clear x2_1
    have X2_2 := hid x2_2; clear x2_2
    have X2_3 := hid x2_3; clear x2_3
    have X2_4 := hid x2_4; clear x2_4
    have X2_0 := hid x2_0; clear x2_0
    have G2 := hid (G1.out.trans g2)
    clear hg2 g2
    go_wp2
    refine bodyPost_ret (v := .tuple #[fr 0 0, .int .i64 3]) (by simp [results, Try.results99, go_sem, *]) rfl ⟨rfl, ?_⟩
    exact ((G2.out).setCell (by simp <;> omega) _).setCell (by simp <;> omega) _
set_option maxRecDepth 20000 in
set_option maxHeartbeats 2000000 in
theorem sresid (x : Obv) (n : Nat) (ys : List (Int × Int)) (B : Option Addr) (d g o : Nat) (w : World) (X : Hid (CelO w ⟨g, o, none⟩ x)) (Y : Hid (RdF w B ys)) (hob : obB x n = true) (hl : ys.length ≤ 6) (hall : allF ys = true) :
    Calls Try.prog 75 #[.pointer (some ⟨g, o, none⟩), .slice B ys.length d] w fun e w' => ((∃ u v, rsd x ys ys.length = some (u, v) ∧ e = .returned (.tuple #[fr u v, .int .i64 0])) ∨ (rsd x ys ys.length = none ∧ e = .returned (.tuple #[fr 0 0, .int .i64 3]))) ∧ Gr w w' := by
  have HOB := hid hob; have HALL := hid hall; clear hob hall
  obtain ⟨_, _, _, _, _, _, hp, hq, _⟩ := X.out.blk
  have hgl : g < w.heap.size := X.out.lt
  go_enter Try.func75, Try.ntmps75
  go_wp2_with fail
  go_loopw [7] (fun U wr => ∃ (k : Nat) (u v : Int), U = .int .i64 (k : Int) ∧ k ≤ ys.length ∧ Gr w wr ∧ wr.heap[w.heap.size]? = some (.cells #[.int .i64 0, .int .i64 0] 24) ∧ wr.heap[w.heap.size + 1]? = some (.cells #[.int .i64 u, .int .i64 v] 24) ∧ rsd x ys k = some (u, v)) (fun U _ => ys.length - (intOf U).toNat)
  case atStart => exact ⟨0, x.p, x.q, rfl, by omega, ((Gr.refl _).al _).al _, (alloc2 (Gr.refl _)).1, (alloc2 (Gr.refl _)).2.1, rfl⟩
  case round =>
    obtain ⟨k, u, v, rfl, hk, g0, y1, y2, hs⟩ := hrel
    have GW := hid g0; have Y1 := hid y1; have Y2 := hid y2; have HS := hid hs
    have XC := hid (X.out.keep g0)
    clear g0 y1 y2 hs hp hq
    by_cases hlt : k < ys.length
    · obtain ⟨⟨a, b⟩, hab⟩ : ∃ pq, ys[k]? = some pq := ⟨ys[k], List.getElem?_eq_getElem _⟩
      have HAB := hid (allF_get HALL.out hab)
      have HY := hid hab
      obtain ⟨ad, rfl, c1, c2⟩ := (Y.out.keep GW.out) k a b hab
      have C1 := hid c1; have C2 := hid c2
      have hk6 : k < 6 := by omega
      obtain ⟨cb1, cb2⟩ := co_rg HOB.out hk6
      have hc := co_cell XC.out hk6
      have hgr : g < wr.heap.size := XC.out.lt
      have HOK := hid (rsd_ok (ob_ok HOB.out).1 k u v HS.out)
      by_cases hz : coAt x k = 0
      · have HS1 := hid (rsd_zero HS.out hz)
        rw [hz] at hc
        clear hz cb1 cb2 c1 c2 hab
        obtain ⟨_, _⟩ := cells2 Y1.out
        have _ := fz Y1.out
        have _ := ltb Y1.out
        obtain ⟨_, _⟩ := cells2 Y2.out
        have _ := fz Y2.out
        have _ := ltb Y2.out
        go_wp2_with fail
        exact ⟨⟨k + 1, u, v, by simp, by omega, GW.out, Y1.out, Y2.out, HS1.out⟩, by simp [intOf]; omega⟩
      · cases hls : lsB u v (coAt x k) 1 a b with
        | true =>
          have hs1 := rsd_t HS.out HY.out hz hls
          have hsl := fun w => sless_t u v (coAt x k) 1 a b w HOK.out (ok_whole (by omega) (by omega)) HAB.out hls
          generalize coAt x k = c at *
          generalize lsP u v c 1 a b = P at *
          generalize lsQ u v c 1 a b = Q at *
          have hz2 : (c == 0) = false := by simpa using hz
          have HC := hid hc; have HSL := hid hsl; have HS2 := hid hs1
          clear hs1 hsl hls c1 c2 hab hz
          obtain ⟨_, _⟩ := cells2 Y1.out
          have _ := fz Y1.out
          have _ := ltb Y1.out
          obtain ⟨_, _⟩ := cells2 Y2.out
          have _ := fz Y2.out
          have _ := ltb Y2.out
          go_wp2_with fail
          refine wp_reg1s #[.int .i64 0, .int .i64 0] 19 17 8 18 42 (by kernel_rfl) (by kernel_rfl) rfl rfl (by simp) rfl rfl (by decide) (fun _ _ => by kernel_rfl) (by kernel_rfl) ?_
          apply Exists.intro; apply Exists.intro
          refine ⟨fun wb hb => ?_, ?_⟩
          · obtain ⟨_, _⟩ := hb.at2 Y1.out
            obtain ⟨_, _⟩ := hb.at2 Y2.out
            have _ := hb.atF C1.out; have _ := hb.atF C2.out; have _ := hb.atF HC.out
            simp only [headOps, List.contains, List.elem, Nat.reduceAdd, Nat.reduceBEq, reduceIte, Bool.false_eq_true, dumOp]
            repeat (first | go_big_quiet_step (first | (go_at_call 53; exact Calls.of_gr (swhole1 _ _)) | (go_at_call 99; exact Calls.of_gr (HSL.out _))) | quiet_step (fail))
            exact wpQuiet_nil rfl
          refine ⟨rfl, ⟨rfl, by simp [Value.oneCell']⟩, fun w1 b1 hg1 _ xb1 => ?_⟩
          have x1_1 := hg1.keep Y1.out
          have x1_2 := hg1.keep Y2.out
          obtain ⟨_, _⟩ := cells2 x1_1
          have _ := fz x1_1
          have _ := ltb x1_1
          obtain ⟨_, _⟩ := cells2 x1_2
          have _ := fz x1_2
          have _ := ltb x1_2
          obtain ⟨_, _⟩ := cells2 xb1
          have _ := fz xb1
          have _ := ltb xb1
          have X1_1 := hid x1_1; clear x1_1
          have X1_2 := hid x1_2; clear x1_2
          have Xb1 := hid xb1; clear xb1
          have G1 := hid (GW.out.trans hg1)
          clear hg1
          go_wp2_with fail
          exact ⟨⟨k + 1, P, Q, by simp, by omega, (G1.out.setCell (by simp) _).setCell (by simp) _, set2_old X1_1.out (by omega), set2_new X1_2.out, HS2.out⟩, by simp [intOf]; omega⟩
        | false =>
          have HS1 := hid (rsd_none (rsd_f HS.out HY.out hz hls) ys.length (by omega))
          have hsl := fun w => sless_f u v (coAt x k) 1 a b w HOK.out (ok_whole (by omega) (by omega)) HAB.out hls
          generalize coAt x k = c at *
          have hz2 : (c == 0) = false := by simpa using hz
          have HC := hid hc; have HSL := hid hsl
          clear hsl hls c1 c2 hab hz
          obtain ⟨_, _⟩ := cells2 Y1.out
          have _ := fz Y1.out
          have _ := ltb Y1.out
          obtain ⟨_, _⟩ := cells2 Y2.out
          have _ := fz Y2.out
          have _ := ltb Y2.out
          go_wp2_with fail
          refine wp_reg1s #[.int .i64 0, .int .i64 0] 19 17 8 18 42 (by kernel_rfl) (by kernel_rfl) rfl rfl (by simp) rfl rfl (by decide) (fun _ _ => by kernel_rfl) (by kernel_rfl) ?_
          apply Exists.intro; apply Exists.intro
          refine ⟨fun wb hb => ?_, ?_⟩
          · obtain ⟨_, _⟩ := hb.at2 Y1.out
            obtain ⟨_, _⟩ := hb.at2 Y2.out
            have _ := hb.atF C1.out; have _ := hb.atF C2.out; have _ := hb.atF HC.out
            simp only [headOps, List.contains, List.elem, Nat.reduceAdd, Nat.reduceBEq, reduceIte, Bool.false_eq_true, dumOp]
            repeat (first | go_big_quiet_step (first | (go_at_call 53; exact Calls.of_gr (swhole1 _ _)) | (go_at_call 99; exact Calls.of_gr (HSL.out _))) | quiet_step (fail))
            exact wpQuiet_nil rfl
          refine ⟨rfl, ⟨rfl, by simp [Value.oneCell']⟩, fun w1 b1 hg1 _ xb1 => ?_⟩
          have x1_1 := hg1.keep Y1.out
          have x1_2 := hg1.keep Y2.out
          obtain ⟨_, _⟩ := cells2 x1_1
          have _ := fz x1_1
          have _ := ltb x1_1
          obtain ⟨_, _⟩ := cells2 x1_2
          have _ := fz x1_2
          have _ := ltb x1_2
          obtain ⟨_, _⟩ := cells2 xb1
          have _ := fz xb1
          have _ := ltb xb1
          have X1_1 := hid x1_1; clear x1_1
          have X1_2 := hid x1_2; clear x1_2
          have Xb1 := hid xb1; clear xb1
          have G1 := hid (GW.out.trans hg1)
          clear hg1
          go_wp2_with fail
          refine bodyPost_ret (v := .tuple #[fr 0 0, .int .i64 3]) (by simp [results, Try.results75, go_sem, *]) rfl ?_
          exact ⟨.inr ⟨HS1.out, rfl⟩, (G1.out.setCell (by simp) _).setCell (by simp) _⟩
    · have hke : k = ys.length := by omega
      subst hke
      obtain ⟨_, _⟩ := cells2 Y1.out
      have _ := fz Y1.out
      have _ := ltb Y1.out
      obtain ⟨_, _⟩ := cells2 Y2.out
      have _ := fz Y2.out
      have _ := ltb Y2.out
      go_wp2_with fail
      refine bodyPost_ret (v := .tuple #[fr u v, .int .i64 0]) (by simp [results, Try.results75, go_sem, *]) rfl ?_
      exact ⟨.inl ⟨u, v, HS.out, rfl⟩, (GW.out.setCell (by simp) _).setCell (by simp) _⟩
/-! the code of a table and of numbers -/
def askC (n : Int) (b : Bool) (p q : Int) (xs : List Obv) (ys : List (Int × Int)) : Int := if tblB n b p q xs = true ∧ allF ys = true then (if (ys.length : Int) = n then 0 else 2) else 1
set_option maxRecDepth 20000 in
set_option maxHeartbeats 1000000 in
theorem sTxAsk (k : Nat) (T : TypeId) (n : Int) (g c : Nat) (b : Bool) (p q : Int) (xs : List Obv) (B : Option Addr) (d : Nat) (ys : List (Int × Int)) (C : Int) (w : World) (XB : Hid (w.heap[k]? = some (.cells #[.int .i64 n, .slice (some ⟨g, 0, none⟩) xs.length c, .bool b, .int .i64 p, .int .i64 q] T))) (X : Hid (RdO w (some ⟨g, 0, none⟩) xs)) (Y : Hid (RdF w B ys)) (hn : xs.length ≤ 1048576) (hm : ys.length ≤ 1048576) (hw : xs.all wfE = true) (hC : askC n b p q xs ys = C) :
    Calls Try.prog 74 #[.pointer (some ⟨k, 0, none⟩), .slice B ys.length d] w fun e w' => e = .returned (.int .i64 C) ∧ Gr w w' := by
  cases h1 : tblB n b p q xs with
  | false =>
    obtain rfl : C = 1 := by rw [← hC]; unfold askC; rw [if_neg (by simp [h1])]
    have HT := hid fun (w : World) (XB : Hid (w.heap[k]? = some (.cells #[.int .i64 n, .slice (some ⟨g, 0, none⟩) xs.length c, .bool b, .int .i64 p, .int .i64 q] T))) (X : Hid (RdO w (some ⟨g, 0, none⟩) xs)) => h1 ▸ sTbOk k T n g c b p q xs w XB X hn hw
    clear hC h1 hw
    go_enter Try.func74, Try.ntmps74
    go_wp2_with fail
    refine (HT.out _ XB X).mono ?_
    rintro e w1 ⟨rfl, hg⟩
    have G1 := hid hg; clear hg
    go_wp2_with fail
    go_ret
    exact ⟨rfl, G1.out⟩
  | true =>
    have HT := hid fun (w : World) (XB : Hid (w.heap[k]? = some (.cells #[.int .i64 n, .slice (some ⟨g, 0, none⟩) xs.length c, .bool b, .int .i64 p, .int .i64 q] T))) (X : Hid (RdO w (some ⟨g, 0, none⟩) xs)) => h1 ▸ sTbOk k T n g c b p q xs w XB X hn hw
    cases h2 : allF ys with
    | false =>
      obtain rfl : C = 1 := by rw [← hC]; unfold askC; rw [if_neg (by simp [h2])]
      have HF := hid fun (w' : World) (Z : Hid (RdF w' B ys)) => h2 ▸ sFracs B d ys w' Z hm
      clear hC h1 hw h2
      go_enter Try.func74, Try.ntmps74
      go_wp2_with fail
      refine (HT.out _ XB X).mono ?_
      rintro e w1 ⟨rfl, hg⟩
      have G1 := hid hg; clear hg
      go_wp2_with fail
      refine (HF.out _ (hid (Y.out.keep G1.out))).mono ?_
      rintro e w2 ⟨rfl, hg⟩
      have G2 := hid (G1.out.trans hg); clear hg
      go_wp2_with fail
      go_ret
      exact ⟨rfl, G2.out⟩
    | true =>
      have HF := hid fun (w' : World) (Z : Hid (RdF w' B ys)) => h2 ▸ sFracs B d ys w' Z hm
      clear hw
      by_cases h3 : (ys.length : Int) = n
      · obtain rfl : C = 0 := by rw [← hC]; unfold askC; rw [if_pos ⟨h1, h2⟩, if_pos h3]
        have h3' : ((ys.length : Int) == n) = true := by simpa using h3
        clear hC h1 h2
        go_enter Try.func74, Try.ntmps74
        go_wp2_with fail
        refine (HT.out _ XB X).mono ?_
        rintro e w1 ⟨rfl, hg⟩
        have G1 := hid hg; clear hg
        go_wp2_with fail
        refine (HF.out _ (hid (Y.out.keep G1.out))).mono ?_
        rintro e w2 ⟨rfl, hg⟩
        have G2 := hid (G1.out.trans hg); clear hg
        obtain ⟨_, _, _, _, _⟩ := cells5 (G2.out.keep XB.out)
        go_wp2_with fail
        go_ret
        exact ⟨rfl, G2.out⟩
      · obtain rfl : C = 2 := by rw [← hC]; unfold askC; rw [if_pos ⟨h1, h2⟩, if_neg h3]
        have h3' : ((ys.length : Int) == n) = false := by simpa using h3
        clear hC h1 h2
        go_enter Try.func74, Try.ntmps74
        go_wp2_with fail
        refine (HT.out _ XB X).mono ?_
        rintro e w1 ⟨rfl, hg⟩
        have G1 := hid hg; clear hg
        go_wp2_with fail
        refine (HF.out _ (hid (Y.out.keep G1.out))).mono ?_
        rintro e w2 ⟨rfl, hg⟩
        have G2 := hid (G1.out.trans hg); clear hg
        obtain ⟨_, _, _, _, _⟩ := cells5 (G2.out.keep XB.out)
        go_wp2_with fail
        go_ret
        exact ⟨rfl, G2.out⟩
end Go.Proofs.Ytjhlpaeenjbljaa
