/- WALKS: BestRepeats, of the reference: the walk; both. -/
import Derived.Test.YtljmbdjojogbjaaHj
namespace Go.Proofs.Ytljmbdjojogbjaa
open Go.RowKit Go.Sort

def bV (H : Int → Int) (s g : Int) (k : Nat) (f : Int → Int) : Int := if k = 0 then 0 else f (bst H s g k)
theorem bV_pos {H : Int → Int} {s g : Int} {k : Nat} (f : Int → Int) (h : 1 ≤ k) : bV H s g k f = f (bst H s g k) := by
  unfold bV; exact if_neg (by omega)
theorem bV_succ {H : Int → Int} {s g : Int} {k : Nat} {t : Int} (h : bst H s g (k + 1) = t) : ∀ f, bV H s g (k + 1) f = f t := fun f => by
  rw [bV_pos f (by omega), h]
theorem bV_same {H : Int → Int} {s g : Int} {k : Nat} (h1 : 1 ≤ k) (h : bst H s g (k + 1) = bst H s g k) : ∀ f, bV H s g (k + 1) f = bV H s g k f := fun f => by
  rw [bV_pos f (by omega), bV_pos f h1, h]
set_option maxRecDepth 20000 in
set_option maxHeartbeats 1000000 in
theorem sBestR_no (A : Option Addr) (c : Nat) (xs : List Int) (e no s g t l C : Int) (w : World) (X : Hid (RdH w A xs)) (hn : xs.length ≤ 1048576) (hh : xs.all okH = true) (hC : codeP xs e no s g t l = C) (h0 : C ≠ 0) :
    Calls Try.prog 22 #[dk A xs.length c e no, .int .i64 s, .int .i64 g, .int .i64 t, .int .i64 l] w fun x w' => x = .returned (.tuple #[.int .i64 0, fr 0 0, .int .i64 C]) ∧ Gr w w' := by
  have HA := hid fun (w' : World) (b : Nat) (T : TypeId) (XB : Hid (w'.heap[b]? = some (.cells #[.slice A xs.length c, .int .i64 e, .int .i64 no] T))) (hg : Gr w w') => sCheckP b T A c xs e no s g t l w' XB (hid (X.out.keep hg)) hn hh
  rw [hC] at HA
  have c2 : ((C : Int) != 0) = true := by simpa using h0
  clear hh hC h0
  go_enter Try.func22, Try.ntmps22
  go_wp2_with fail
  refine (HA.out _ _ _ (hid (alloc2 (Gr.refl _)).1) (((Gr.refl w).al _).al _)).mono ?_
  rintro x w1 ⟨rfl, rfl⟩
  go_wp2_with fail
  refine bodyPost_ret (v := .tuple #[.int .i64 0, fr 0 0, .int .i64 C]) (by simp [results, Try.results22, go_sem, *]) rfl ⟨rfl, ((Gr.refl w).al _).al _⟩
set_option maxRecDepth 20000 in
set_option maxHeartbeats 2000000 in
theorem sBestR_yes (A : Option Addr) (c : Nat) (xs : List Int) (e no s g t l : Int) (w : World) (X : Hid (RdH w A xs)) (hn : xs.length ≤ 1048576) (hh : xs.all okH = true) (hC : codeP xs e no s g t l = 0) :
    Calls Try.prog 22 #[dk A xs.length c e no, .int .i64 s, .int .i64 g, .int .i64 t, .int .i64 l] w fun x w' => x = .returned (.tuple #[.int .i64 (bst (headF xs e no l) s g t.toNat), fr (redP (rpS (headF xs e no l) s g (bst (headF xs e no l) s g t.toNat)) (bst (headF xs e no l) s g t.toNat)) (redQ (rpS (headF xs e no l) s g (bst (headF xs e no l) s g t.toNat)) (bst (headF xs e no l) s g t.toNat)), .int .i64 0]) ∧ Gr w w' := by
  have HA := hid fun (w' : World) (b : Nat) (T : TypeId) (XB : Hid (w'.heap[b]? = some (.cells #[.slice A xs.length c, .int .i64 e, .int .i64 no] T))) (hg : Gr w w') => sCheckP b T A c xs e no s g t l w' XB (hid (X.out.keep hg)) hn hh
  obtain ⟨hR, hB⟩ := codeP_zero hC
  have HS := hid fun (t' : Int) (hb : RpB s g t') (w' : World) (b : Nat) (T : TypeId) (XB : Hid (w'.heap[b]? = some (.cells #[.slice A xs.length c, .int .i64 e, .int .i64 no] T))) (hg : Gr w w') => sRepeat b T A c xs e no s g t' l w' XB (hid (X.out.keep hg)) hR hb
  obtain ⟨g1, g2, g3, g4, g5, g6⟩ := hB
  rw [hC] at HA
  generalize headF xs e no l = H at *
  have HB := hid fun t' (h1 : 1 ≤ t') (h2 : t' ≤ t) => (⟨g1, g2, g3, g4, h1, by omega⟩ : RpB s g t')
  clear hh hC hR
  go_enter Try.func22, Try.ntmps22
  go_wp2_with fail
  refine (HA.out _ _ _ (hid (alloc2 (Gr.refl _)).1) (((Gr.refl w).al _).al _)).mono ?_
  rintro x w1 ⟨rfl, rfl⟩
  go_wp2_with fail
  go_loopw [14, 17] (fun v u wr => ∃ (k : Nat), u = .int .i64 ((k : Int) + 1) ∧ v = .int .i64 (bV H s g k fun t => t) ∧ (k : Int) ≤ t ∧ Gr w wr ∧ wr.heap[w.heap.size]? = some (.cells #[.slice A xs.length c, .int .i64 e, .int .i64 no] 29) ∧ wr.heap[w.heap.size + 1]? = some (.cells #[.int .i64 0, .int .i64 0] 41) ∧ wr.heap[w.heap.size + 1 + 1]? = some (.cells #[.int .i64 (bV H s g k fun t => redP (rpS H s g t) t), .int .i64 (bV H s g k fun t => redQ (rpS H s g t) t)] 41) ∧ wr.heap[w.heap.size + 1 + 1 + 1]? = some (.cells #[.int .i64 (bV H s g k fun t => mzA H s g t), .int .i64 (bV H s g k fun t => redQ (rpS H s g t) t)] 41)) (fun _ u _ => (t + 1 - intOf u).toNat)
  case atStart =>
    obtain ⟨x0, x1, x2, x3, _, gg⟩ := alloc4 (Gr.refl ((((w.alloc (.cells #[.slice A xs.length c, .int .i64 e, .int .i64 no] 29)).alloc (.cells #[.int .i64 0, .int .i64 0] 41)).alloc (.cells #[.int .i64 0, .int .i64 0] 41)).alloc (.cells #[.int .i64 0, .int .i64 0] 41)))
    exact ⟨0, rfl, rfl, by omega, gg, x0, x1, x2, x3⟩
  case round =>
    obtain ⟨k, rfl, rfl, hk, hg, hx1, hx2, hx3, hx4⟩ := hrel
    have HG := hid hg; have Y1 := hid hx1; have Y2 := hid hx2
    clear hg hx1 hx2
    by_cases hlt : (k : Int) + 1 ≤ t
    · rcases Nat.eq_zero_or_pos k with hk0 | hk1
      · subst hk0
        rw [show (((0 : Nat) : Int) + 1) = 1 from rfl]
        have HBK := hid (HB.out (1 : Int) (by omega) g5)
        obtain ⟨⟨p1, p2⟩, ⟨q1, q2⟩, ⟨r1, r2⟩, ⟨o1, o2⟩⟩ := mz_bd (H := H) HBK.out
        have HS1 := hid fun w' b T XB hg => HS.out (1 : Int) HBK.out w' b T XB hg
        have HAB := hid fun w' => abs_any (redP (rpS H s g (1 : Int)) (1 : Int) - g * redQ (rpS H s g (1 : Int)) (1 : Int)) w' (by omega) (by omega)
        rw [show ((redP (rpS H s g (1 : Int)) (1 : Int) - g * redQ (rpS H s g (1 : Int)) (1 : Int)).natAbs : Int) = mzA H s g (1 : Int) from rfl] at HAB
        have Y3 : Hid (wr.heap[w.heap.size + 1 + 1]? = some (.cells #[.int .i64 0, .int .i64 0] 41)) := hid hx3
        have Y4 : Hid (wr.heap[w.heap.size + 1 + 1 + 1]? = some (.cells #[.int .i64 0, .int .i64 0] 41)) := hid hx4
        have hby := hid (bV_succ (H := H) (s := s) (g := g) (k := 0) (t := 1) (bst_one H s g))
        have hv : bV H s g 0 (fun t => t) = 0 := rfl
        rw [hv]
        clear hx3 hx4 hv
        obtain ⟨_, _, _⟩ := cells3 Y1.out
        have _ := fz Y1.out
        have _ := ltb Y1.out
        obtain ⟨_, _⟩ := cells2 Y2.out
        have _ := fz Y2.out
        have _ := ltb Y2.out
        obtain ⟨_, _⟩ := cells2 Y3.out
        have _ := fz Y3.out
        have _ := ltb Y3.out
        obtain ⟨_, _⟩ := cells2 Y4.out
        have _ := fz Y4.out
        have _ := ltb Y4.out
        go_wp2_with fail
        refine (HS1.out _ _ _ (hid Y1.out) HG.out).mono ?_
        rintro e w1 ⟨rfl, hg1⟩
        have x1_1 := hg1.keep Y1.out
        have x1_2 := hg1.keep Y2.out
        have x1_3 := hg1.keep Y3.out
        have x1_4 := hg1.keep Y4.out
        obtain ⟨_, _, _⟩ := cells3 x1_1
        have _ := fz x1_1
        have _ := ltb x1_1
        obtain ⟨_, _⟩ := cells2 x1_2
        have _ := fz x1_2
        have _ := ltb x1_2
        obtain ⟨_, _⟩ := cells2 x1_3
        have _ := fz x1_3
        have _ := ltb x1_3
        obtain ⟨_, _⟩ := cells2 x1_4
        have _ := fz x1_4
        have _ := ltb x1_4
        have X1_1 := hid x1_1; clear x1_1
        have X1_2 := hid x1_2; clear x1_2
        have X1_3 := hid x1_3; clear x1_3
        have X1_4 := hid x1_4; clear x1_4
        have G1 := hid (HG.out.trans hg1)
        clear hg1
        go_wp2_with fail
        refine wp_reg1 (b0 := .cells #[.int .i64 0, .int .i64 0] 41) 12 11 21 (by kernel_rfl) (by kernel_rfl) rfl rfl (by simp) (fun _ _ => by kernel_rfl) ?_
        apply Exists.intro
        refine ⟨fun wb hb => ?_, ?_⟩
        · obtain ⟨_, _, _⟩ := hb.at3 (((Gr.refl _).al _).keep X1_1.out)
          obtain ⟨_, _⟩ := hb.at2 (((Gr.refl _).al _).keep X1_2.out)
          obtain ⟨_, _⟩ := hb.at2 (((Gr.refl _).al _).keep X1_3.out)
          obtain ⟨_, _⟩ := hb.at2 (((Gr.refl _).al _).keep X1_4.out)
          obtain ⟨_, _⟩ := hb.at2 (alloc1 (Gr.refl _)).1
          simp only [headOps, List.contains, List.elem, Nat.reduceAdd, Nat.reduceBEq, reduceIte, Bool.false_eq_true, dumOp]
          repeat (first | go_big_quiet_step (first | (go_at_call 28; exact Calls.of_same (HAB.out _))) | quiet_step (fail))
          exact wpQuiet_nil rfl
        intro w2 b2 hg2 hb2 xb2
        have N2_0 := hid (Nat.ne_of_lt (Nat.lt_of_lt_of_le (ltb (((Gr.refl _).al _).keep X1_1.out)) hb2))
        have N2_1 := hid (Nat.ne_of_lt (Nat.lt_of_lt_of_le (ltb (((Gr.refl _).al _).keep X1_2.out)) hb2))
        have N2_2 := hid (Nat.ne_of_lt (Nat.lt_of_lt_of_le (ltb (((Gr.refl _).al _).keep X1_3.out)) hb2))
        have N2_3 := hid (Nat.ne_of_lt (Nat.lt_of_lt_of_le (ltb (((Gr.refl _).al _).keep X1_4.out)) hb2))
        have N2_4 := hid (Nat.ne_of_lt (Nat.lt_of_lt_of_le (ltb (alloc1 (Gr.refl _)).1) hb2))
        have hge2 := hid (Nat.le_trans ((G1.out).al _).size hb2)
        obtain ⟨x2_0, hz2, g2⟩ := alloc1 hg2
        have x2_1 := g2.keep X1_1.out
        have x2_2 := g2.keep X1_2.out
        have x2_3 := g2.keep X1_3.out
        have x2_4 := g2.keep X1_4.out
        obtain ⟨_, _, _⟩ := cells3 x2_1
        have _ := fz x2_1
        have _ := ltb x2_1
        obtain ⟨_, _⟩ := cells2 x2_2
        have _ := fz x2_2
        have _ := ltb x2_2
        obtain ⟨_, _⟩ := cells2 x2_3
        have _ := fz x2_3
        have _ := ltb x2_3
        obtain ⟨_, _⟩ := cells2 x2_4
        have _ := fz x2_4
        have _ := ltb x2_4
        obtain ⟨_, _⟩ := cells2 x2_0
        have _ := fz x2_0
        have _ := ltb x2_0
        obtain ⟨_, _⟩ := cells2 xb2
        have _ := fz xb2
        have _ := ltb xb2
        have X2_1 := hid x2_1; clear x2_1
        have X2_2 := hid x2_2; clear x2_2
        have X2_3 := hid x2_3; clear x2_3
        have X2_4 := hid x2_4; clear x2_4
        have X2_0 := hid x2_0; clear x2_0
        have Xb2 := hid xb2; clear xb2
        have G2 := hid (G1.out.trans g2)
        clear hg2 g2
        clear hb2
        have _ := N2_0.out; have _ := N2_1.out; have _ := N2_2.out; have _ := N2_3.out; have _ := N2_4.out
        go_wp2_with fail
        refine ⟨⟨0 + 1, by simp, by rw [hby.out], by omega, ?_, ?_, ?_, ?_, ?_⟩, by simp [intOf]; omega⟩
        · exact (((((G2.out.setCell hge2.out _).setCell hge2.out _).setCell (by simp; omega) _).setCell (by simp; omega) _).setCell (by simp; omega) _).setCell (by simp; omega) _
        · exact set2_old (set2_old (set2_old X2_1.out N2_0.out) (by omega)) (by omega)
        · exact set2_old (set2_old (set2_old X2_2.out N2_1.out) (by omega)) (by omega)
        · rw [hby.out, hby.out]
          exact set2_old (set2_new (set2_old X2_3.out N2_2.out)) (by omega)
        · rw [hby.out, hby.out]
          exact set2_new (set2_old (set2_old X2_4.out N2_3.out) (by omega))
      · have HBK := hid (HB.out ((k : Int) + 1) (by omega) hlt)
        obtain ⟨⟨p1, p2⟩, ⟨q1, q2⟩, ⟨r1, r2⟩, ⟨o1, o2⟩⟩ := mz_bd (H := H) HBK.out
        have HS1 := hid fun w' b T XB hg => HS.out ((k : Int) + 1) HBK.out w' b T XB hg
        have HAB := hid fun w' => abs_any (redP (rpS H s g ((k : Int) + 1)) ((k : Int) + 1) - g * redQ (rpS H s g ((k : Int) + 1)) ((k : Int) + 1)) w' (by omega) (by omega)
        rw [show ((redP (rpS H s g ((k : Int) + 1)) ((k : Int) + 1) - g * redQ (rpS H s g ((k : Int) + 1)) ((k : Int) + 1)).natAbs : Int) = mzA H s g ((k : Int) + 1) from rfl] at HAB
        obtain ⟨c1, c2, c3⟩ := bst_bd H s g k
        have c3 := c3 hk1
        have HBB := hid (HB.out (bst H s g k) c1 (by omega))
        obtain ⟨_, ⟨q1', q2'⟩, _, ⟨o1', o2'⟩⟩ := mz_bd (H := H) HBB.out
        rw [bV_pos _ hk1, bV_pos _ hk1] at hx3 hx4
        rw [bV_pos _ hk1]
        have b1 := mul_bdg (x := mzA H s g ((k : Int) + 1)) (y := redQ (rpS H s g (bst H s g k)) (bst H s g k)) (A := 2000000000) (B := 200) (by omega) (by omega) (by omega) (by omega)
        have b2 := mul_bdg (x := mzA H s g (bst H s g k)) (y := redQ (rpS H s g ((k : Int) + 1)) ((k : Int) + 1)) (A := 2000000000) (B := 200) (by omega) (by omega) (by omega) (by omega)
        obtain ⟨_, _⟩ := b1
        obtain ⟨_, _⟩ := b2
        have hne := near_eq (H := H) (s := s) (g := g) (t := (k : Int) + 1) (t' := bst H s g k) (by omega) (by omega)
        rw [decide_eq_decide] at hne
        have hb0 : (bst H s g k == 0) = false := by simp; omega
        have Y3 := hid hx3; have Y4 := hid hx4
        clear hx3 hx4
        by_cases hnr : offA H s g ((k : Int) + 1) * bst H s g k < offA H s g (bst H s g k) * ((k : Int) + 1)
        · have hby := hid (bV_succ (bst_yes hnr))
          have hN := hne.2 hnr
          clear hne hnr
          obtain ⟨_, _, _⟩ := cells3 Y1.out
          have _ := fz Y1.out
          have _ := ltb Y1.out
          obtain ⟨_, _⟩ := cells2 Y2.out
          have _ := fz Y2.out
          have _ := ltb Y2.out
          obtain ⟨_, _⟩ := cells2 Y3.out
          have _ := fz Y3.out
          have _ := ltb Y3.out
          obtain ⟨_, _⟩ := cells2 Y4.out
          have _ := fz Y4.out
          have _ := ltb Y4.out
          go_wp2_with fail
          refine (HS1.out _ _ _ (hid Y1.out) HG.out).mono ?_
          rintro e w1 ⟨rfl, hg1⟩
          have x1_1 := hg1.keep Y1.out
          have x1_2 := hg1.keep Y2.out
          have x1_3 := hg1.keep Y3.out
          have x1_4 := hg1.keep Y4.out
          obtain ⟨_, _, _⟩ := cells3 x1_1
          have _ := fz x1_1
          have _ := ltb x1_1
          obtain ⟨_, _⟩ := cells2 x1_2
          have _ := fz x1_2
          have _ := ltb x1_2
          obtain ⟨_, _⟩ := cells2 x1_3
          have _ := fz x1_3
          have _ := ltb x1_3
          obtain ⟨_, _⟩ := cells2 x1_4
          have _ := fz x1_4
          have _ := ltb x1_4
          have X1_1 := hid x1_1; clear x1_1
          have X1_2 := hid x1_2; clear x1_2
          have X1_3 := hid x1_3; clear x1_3
          have X1_4 := hid x1_4; clear x1_4
          have G1 := hid (HG.out.trans hg1)
          clear hg1
          go_wp2_with fail
          refine wp_reg1 (b0 := .cells #[.int .i64 0, .int .i64 0] 41) 12 11 21 (by kernel_rfl) (by kernel_rfl) rfl rfl (by simp) (fun _ _ => by kernel_rfl) ?_
          apply Exists.intro
          refine ⟨fun wb hb => ?_, ?_⟩
          · obtain ⟨_, _, _⟩ := hb.at3 (((Gr.refl _).al _).keep X1_1.out)
            obtain ⟨_, _⟩ := hb.at2 (((Gr.refl _).al _).keep X1_2.out)
            obtain ⟨_, _⟩ := hb.at2 (((Gr.refl _).al _).keep X1_3.out)
            obtain ⟨_, _⟩ := hb.at2 (((Gr.refl _).al _).keep X1_4.out)
            obtain ⟨_, _⟩ := hb.at2 (alloc1 (Gr.refl _)).1
            simp only [headOps, List.contains, List.elem, Nat.reduceAdd, Nat.reduceBEq, reduceIte, Bool.false_eq_true, dumOp]
            repeat (first | go_big_quiet_step (first | (go_at_call 28; exact Calls.of_same (HAB.out _))) | quiet_step (fail))
            exact wpQuiet_nil rfl
          intro w2 b2 hg2 hb2 xb2
          have N2_0 := hid (Nat.ne_of_lt (Nat.lt_of_lt_of_le (ltb (((Gr.refl _).al _).keep X1_1.out)) hb2))
          have N2_1 := hid (Nat.ne_of_lt (Nat.lt_of_lt_of_le (ltb (((Gr.refl _).al _).keep X1_2.out)) hb2))
          have N2_2 := hid (Nat.ne_of_lt (Nat.lt_of_lt_of_le (ltb (((Gr.refl _).al _).keep X1_3.out)) hb2))
          have N2_3 := hid (Nat.ne_of_lt (Nat.lt_of_lt_of_le (ltb (((Gr.refl _).al _).keep X1_4.out)) hb2))
          have N2_4 := hid (Nat.ne_of_lt (Nat.lt_of_lt_of_le (ltb (alloc1 (Gr.refl _)).1) hb2))
          have hge2 := hid (Nat.le_trans ((G1.out).al _).size hb2)
          obtain ⟨x2_0, hz2, g2⟩ := alloc1 hg2
          have x2_1 := g2.keep X1_1.out
          have x2_2 := g2.keep X1_2.out
          have x2_3 := g2.keep X1_3.out
          have x2_4 := g2.keep X1_4.out
          obtain ⟨_, _, _⟩ := cells3 x2_1
          have _ := fz x2_1
          have _ := ltb x2_1
          obtain ⟨_, _⟩ := cells2 x2_2
          have _ := fz x2_2
          have _ := ltb x2_2
          obtain ⟨_, _⟩ := cells2 x2_3
          have _ := fz x2_3
          have _ := ltb x2_3
          obtain ⟨_, _⟩ := cells2 x2_4
          have _ := fz x2_4
          have _ := ltb x2_4
          obtain ⟨_, _⟩ := cells2 x2_0
          have _ := fz x2_0
          have _ := ltb x2_0
          obtain ⟨_, _⟩ := cells2 xb2
          have _ := fz xb2
          have _ := ltb xb2
          have X2_1 := hid x2_1; clear x2_1
          have X2_2 := hid x2_2; clear x2_2
          have X2_3 := hid x2_3; clear x2_3
          have X2_4 := hid x2_4; clear x2_4
          have X2_0 := hid x2_0; clear x2_0
          have Xb2 := hid xb2; clear xb2
          have G2 := hid (G1.out.trans g2)
          clear hg2 g2
          clear hb2
          have _ := N2_0.out; have _ := N2_1.out; have _ := N2_2.out; have _ := N2_3.out; have _ := N2_4.out
          go_wp2_with fail
          refine ⟨⟨k + 1, by simp, by rw [hby.out], by omega, ?_, ?_, ?_, ?_, ?_⟩, by simp [intOf]; omega⟩
          · exact (((((G2.out.setCell hge2.out _).setCell hge2.out _).setCell (by simp; omega) _).setCell (by simp; omega) _).setCell (by simp; omega) _).setCell (by simp; omega) _
          · exact set2_old (set2_old (set2_old X2_1.out N2_0.out) (by omega)) (by omega)
          · exact set2_old (set2_old (set2_old X2_2.out N2_1.out) (by omega)) (by omega)
          · rw [hby.out, hby.out]
            exact set2_old (set2_new (set2_old X2_3.out N2_2.out)) (by omega)
          · rw [hby.out, hby.out]
            exact set2_new (set2_old (set2_old X2_4.out N2_3.out) (by omega))
        · have hby := hid (bV_same hk1 (bst_no hnr))
          have hN := mt hne.1 hnr
          clear hne hnr
          obtain ⟨_, _, _⟩ := cells3 Y1.out
          have _ := fz Y1.out
          have _ := ltb Y1.out
          obtain ⟨_, _⟩ := cells2 Y2.out
          have _ := fz Y2.out
          have _ := ltb Y2.out
          obtain ⟨_, _⟩ := cells2 Y3.out
          have _ := fz Y3.out
          have _ := ltb Y3.out
          obtain ⟨_, _⟩ := cells2 Y4.out
          have _ := fz Y4.out
          have _ := ltb Y4.out
          go_wp2_with fail
          refine (HS1.out _ _ _ (hid Y1.out) HG.out).mono ?_
          rintro e w1 ⟨rfl, hg1⟩
          have x1_1 := hg1.keep Y1.out
          have x1_2 := hg1.keep Y2.out
          have x1_3 := hg1.keep Y3.out
          have x1_4 := hg1.keep Y4.out
          obtain ⟨_, _, _⟩ := cells3 x1_1
          have _ := fz x1_1
          have _ := ltb x1_1
          obtain ⟨_, _⟩ := cells2 x1_2
          have _ := fz x1_2
          have _ := ltb x1_2
          obtain ⟨_, _⟩ := cells2 x1_3
          have _ := fz x1_3
          have _ := ltb x1_3
          obtain ⟨_, _⟩ := cells2 x1_4
          have _ := fz x1_4
          have _ := ltb x1_4
          have X1_1 := hid x1_1; clear x1_1
          have X1_2 := hid x1_2; clear x1_2
          have X1_3 := hid x1_3; clear x1_3
          have X1_4 := hid x1_4; clear x1_4
          have G1 := hid (HG.out.trans hg1)
          clear hg1
          go_wp2_with fail
          refine wp_reg1 (b0 := .cells #[.int .i64 0, .int .i64 0] 41) 12 11 21 (by kernel_rfl) (by kernel_rfl) rfl rfl (by simp) (fun _ _ => by kernel_rfl) ?_
          apply Exists.intro
          refine ⟨fun wb hb => ?_, ?_⟩
          · obtain ⟨_, _, _⟩ := hb.at3 (((Gr.refl _).al _).keep X1_1.out)
            obtain ⟨_, _⟩ := hb.at2 (((Gr.refl _).al _).keep X1_2.out)
            obtain ⟨_, _⟩ := hb.at2 (((Gr.refl _).al _).keep X1_3.out)
            obtain ⟨_, _⟩ := hb.at2 (((Gr.refl _).al _).keep X1_4.out)
            obtain ⟨_, _⟩ := hb.at2 (alloc1 (Gr.refl _)).1
            simp only [headOps, List.contains, List.elem, Nat.reduceAdd, Nat.reduceBEq, reduceIte, Bool.false_eq_true, dumOp]
            repeat (first | go_big_quiet_step (first | (go_at_call 28; exact Calls.of_same (HAB.out _))) | quiet_step (fail))
            exact wpQuiet_nil rfl
          intro w2 b2 hg2 hb2 xb2
          have N2_0 := hid (Nat.ne_of_lt (Nat.lt_of_lt_of_le (ltb (((Gr.refl _).al _).keep X1_1.out)) hb2))
          have N2_1 := hid (Nat.ne_of_lt (Nat.lt_of_lt_of_le (ltb (((Gr.refl _).al _).keep X1_2.out)) hb2))
          have N2_2 := hid (Nat.ne_of_lt (Nat.lt_of_lt_of_le (ltb (((Gr.refl _).al _).keep X1_3.out)) hb2))
          have N2_3 := hid (Nat.ne_of_lt (Nat.lt_of_lt_of_le (ltb (((Gr.refl _).al _).keep X1_4.out)) hb2))
          have N2_4 := hid (Nat.ne_of_lt (Nat.lt_of_lt_of_le (ltb (alloc1 (Gr.refl _)).1) hb2))
          have hge2 := hid (Nat.le_trans ((G1.out).al _).size hb2)
          obtain ⟨x2_0, hz2, g2⟩ := alloc1 hg2
          have x2_1 := g2.keep X1_1.out
          have x2_2 := g2.keep X1_2.out
          have x2_3 := g2.keep X1_3.out
          have x2_4 := g2.keep X1_4.out
          obtain ⟨_, _, _⟩ := cells3 x2_1
          have _ := fz x2_1
          have _ := ltb x2_1
          obtain ⟨_, _⟩ := cells2 x2_2
          have _ := fz x2_2
          have _ := ltb x2_2
          obtain ⟨_, _⟩ := cells2 x2_3
          have _ := fz x2_3
          have _ := ltb x2_3
          obtain ⟨_, _⟩ := cells2 x2_4
          have _ := fz x2_4
          have _ := ltb x2_4
          obtain ⟨_, _⟩ := cells2 x2_0
          have _ := fz x2_0
          have _ := ltb x2_0
          obtain ⟨_, _⟩ := cells2 xb2
          have _ := fz xb2
          have _ := ltb xb2
          have X2_1 := hid x2_1; clear x2_1
          have X2_2 := hid x2_2; clear x2_2
          have X2_3 := hid x2_3; clear x2_3
          have X2_4 := hid x2_4; clear x2_4
          have X2_0 := hid x2_0; clear x2_0
          have Xb2 := hid xb2; clear xb2
          have G2 := hid (G1.out.trans g2)
          clear hg2 g2
          clear hb2
          have _ := N2_0.out; have _ := N2_1.out; have _ := N2_2.out; have _ := N2_3.out; have _ := N2_4.out
          go_wp2_with fail
          all_goals try (rename_i hcc; exfalso; rcases hcc with hcc | hcc; · (rw [hb0] at hcc; cases hcc); · exact absurd hcc (Int.not_lt.2 hN))
          refine ⟨⟨k + 1, by simp, ?_, by omega, ?_, ?_, ?_, ?_, ?_⟩, by simp [intOf]; omega⟩
          · have e := hby.out (fun t => t)
            rw [bV_pos _ hk1] at e
            rw [e]
          · exact (G2.out.setCell hge2.out _).setCell hge2.out _
          · exact set2_old X2_1.out N2_0.out
          · exact set2_old X2_2.out N2_1.out
          · rw [hby.out, hby.out, bV_pos _ hk1, bV_pos _ hk1]
            exact set2_old X2_3.out N2_2.out
          · rw [hby.out, hby.out, bV_pos _ hk1, bV_pos _ hk1]
            exact set2_old X2_4.out N2_3.out
    · have hkt : t.toNat = k := by omega
      have hk1 : 1 ≤ k := by omega
      rw [bV_pos _ hk1, bV_pos _ hk1] at hx3 hx4
      rw [bV_pos _ hk1]
      have Y3 := hid hx3; have Y4 := hid hx4
      have HKT := hid hkt
      clear hx3 hx4 hkt
      have _ := ltb Y1.out
      obtain ⟨_, _⟩ := cells2 Y2.out
      have _ := fz Y2.out
      have _ := ltb Y2.out
      obtain ⟨_, _⟩ := cells2 Y3.out
      have _ := fz Y3.out
      have _ := ltb Y3.out
      obtain ⟨_, _⟩ := cells2 Y4.out
      have _ := fz Y4.out
      have _ := ltb Y4.out
      go_wp2_with fail
      have M0 := hid (ne_of Y1.out Y2.out (by first | omega | exact Ne.symm N2_0.out | exact Ne.symm N2_1.out | exact Ne.symm N2_2.out | exact Ne.symm N2_3.out | exact Ne.symm N2_4.out | exact Ne.symm N2_0.out | exact Ne.symm N2_1.out | exact Ne.symm N2_2.out | exact Ne.symm N2_3.out | exact Ne.symm N2_4.out | exact Ne.symm N2_0.out | exact Ne.symm N2_1.out | exact Ne.symm N2_2.out | exact Ne.symm N2_3.out | exact Ne.symm N2_4.out))
      have M2 := hid (ne_of Y3.out Y2.out (by first | omega | exact Ne.symm N2_0.out | exact Ne.symm N2_1.out | exact Ne.symm N2_2.out | exact Ne.symm N2_3.out | exact Ne.symm N2_4.out | exact Ne.symm N2_0.out | exact Ne.symm N2_1.out | exact Ne.symm N2_2.out | exact Ne.symm N2_3.out | exact Ne.symm N2_4.out | exact Ne.symm N2_0.out | exact Ne.symm N2_1.out | exact Ne.symm N2_2.out | exact Ne.symm N2_3.out | exact Ne.symm N2_4.out))
      have M3 := hid (ne_of Y4.out Y2.out (by first | omega | exact Ne.symm N2_0.out | exact Ne.symm N2_1.out | exact Ne.symm N2_2.out | exact Ne.symm N2_3.out | exact Ne.symm N2_4.out | exact Ne.symm N2_0.out | exact Ne.symm N2_1.out | exact Ne.symm N2_2.out | exact Ne.symm N2_3.out | exact Ne.symm N2_4.out | exact Ne.symm N2_0.out | exact Ne.symm N2_1.out | exact Ne.symm N2_2.out | exact Ne.symm N2_3.out | exact Ne.symm N2_4.out))
      refine wp_regO 4 3 11 81 (by kernel_rfl) (by kernel_rfl) rfl (by decide) rfl rfl rfl rfl (by kernel_rfl) Y2.out (by kernel_rfl) ?_
      apply Exists.intro; apply Exists.intro
      refine ⟨fun wb hb => ?_, ?_⟩
      · obtain ⟨_, _⟩ := atO2 hb Y3.out M2.out
        obtain ⟨_, _⟩ := atO2 hb Y4.out M3.out
        simp only [headOps, List.contains, List.elem, Nat.reduceAdd, Nat.reduceBEq, reduceIte, Bool.false_eq_true, dumOp]
        repeat (first | go_big_quiet_step (first | (fail)) | quiet_step (fail))
        exact wpQuiet_nil rfl
      refine ⟨rfl, ⟨rfl, by simp [Value.oneCell']⟩, fun w1 hg1 => ?_⟩
      have x1_0 := hg1.keep (row_old Y1.out M0.out)
      have x1_1 := hg1.keep (row_new Y2.out)
      have x1_2 := hg1.keep (row_old Y3.out M2.out)
      have x1_3 := hg1.keep (row_old Y4.out M3.out)
      obtain ⟨_, _⟩ := cells2 x1_1
      have _ := fz x1_1
      have _ := ltb x1_1
      obtain ⟨_, _⟩ := cells2 x1_2
      have _ := fz x1_2
      have _ := ltb x1_2
      obtain ⟨_, _⟩ := cells2 x1_3
      have _ := fz x1_3
      have _ := ltb x1_3
      have X1_0 := hid x1_0; clear x1_0
      have X1_1 := hid x1_1; clear x1_1
      have X1_2 := hid x1_2; clear x1_2
      have X1_3 := hid x1_3; clear x1_3
      have G1 := hid ((HG.out.setRow (by first | omega | (simp; done) | (simp; omega)) _).trans hg1); clear hg1
      go_wp2_with fail
      refine bodyPost_ret (v := .tuple #[.int .i64 (bst H s g k), fr (redP (rpS H s g (bst H s g k)) (bst H s g k)) (redQ (rpS H s g (bst H s g k)) (bst H s g k)), .int .i64 0]) (by simp [results, Try.results22, go_sem, *]) rfl ⟨by rw [HKT.out], ?_⟩
      exact G1.out
theorem bothBestRepeats (xs : List Int) (e no s g t l : Int) (hn : xs.length ≤ 1048576) (hh : xs.all okH = true) : ∃ R P Q C : Int,
    (∀ (A : Option Addr) (c : Nat) (w : World), xs.length ≤ c → Hid (RdH w A xs) → Calls Try.prog 22 #[dk A xs.length c e no, .int .i64 s, .int .i64 g, .int .i64 t, .int .i64 l] w fun x w' => x = .returned (.tuple #[.int .i64 R, fr P Q, .int .i64 C]) ∧ Gr w w') ∧
    (∀ (A : Option Addr) (c : Nat) (w : World), xs.length ≤ c → Hid (RdH w A xs) → Calls Try.prog 23 #[dk A xs.length c e no, .int .i64 s, .int .i64 g, .int .i64 t, .int .i64 l] w fun x w' => x = .returned (.tuple #[.int .i64 R, fr P Q, .int .i64 C]) ∧ Gr w w') := by
  by_cases h0 : codeP xs e no s g t l = 0
  · exact ⟨_, _, _, 0, fun A c w _ X => sBestR_yes A c xs e no s g t l w X hn hh h0, fun A c w hc X => iBestR_yes A c xs e no s g t l w X hn hh hc h0⟩
  · exact ⟨0, 0, 0, _, fun A c w _ X => sBestR_no A c xs e no s g t l _ w X hn hh rfl h0, fun A c w _ X => iBestR_no A c xs e no s g t l _ w X hn hh rfl h0⟩
end Go.Proofs.Ytljmbdjojogbjaa
