/- WALKS: BestRepeats, of the program: the walk. -/
import Derived.Test.YtljmbdjojogbjaaHh
import Derived.WalkMore
namespace Go.Proofs.Ytljmbdjojogbjaa
open Go.RowKit Go.Sort

theorem Rdr.set4 {w w1 : World} {H : Int → Int} {l : Int} {dv : Array Value} {bl bk bd m : Nat} (h0 : Rdr w H l dv bl bk bd m) (h : Rdr w1 H l dv bl bk bd m) {g : Nat} (ha : w.heap.size ≤ g) {a b c d : Value} :
    Rdr ((((w1.setCell ⟨g, 0, none⟩ a).setCell ⟨g, 1, none⟩ b).setCell ⟨g, 2, none⟩ c).setCell ⟨g, 3, none⟩ d) H l dv bl bk bd m :=
  h0.setNew (h0.setNew (h0.setNew (h0.setNew h ha _) ha _) ha _) ha _
theorem Rdr.get4 {w : World} {H : Int → Int} {l : Int} {dv : Array Value} {bl bk bd m : Nat} (h : Rdr w H l dv bl bk bd m) {g : Nat} (h1 : g ≠ bl) (h2 : g ≠ bk) (h3 : g ≠ bd) (h4 : g ≠ m) {a b c d : Value} :
    Rdr ((((w.setCell ⟨g, 0, none⟩ a).setCell ⟨g, 1, none⟩ b).setCell ⟨g, 2, none⟩ c).setCell ⟨g, 3, none⟩ d) H l dv bl bk bd m := by
  obtain ⟨⟨T1, k1⟩, ⟨T2, k2⟩, ⟨T3, k3⟩, es, c, k4, k5⟩ := h
  exact ⟨⟨T1, set4_old k1 (Ne.symm h1)⟩, ⟨T2, set4_old k2 (Ne.symm h2)⟩, ⟨T3, set4_old k3 (Ne.symm h3)⟩, es, c, set4_old k4 (Ne.symm h4), k5⟩
theorem bst_yes {H : Int → Int} {s g : Int} {k : Nat} (h : offA H s g ((k : Int) + 1) * bst H s g k < offA H s g (bst H s g k) * ((k : Int) + 1)) : bst H s g (k + 1) = (k : Int) + 1 := by
  simp only [bst]; exact if_pos h
theorem bst_no {H : Int → Int} {s g : Int} {k : Nat} (h : ¬ offA H s g ((k : Int) + 1) * bst H s g k < offA H s g (bst H s g k) * ((k : Int) + 1)) : bst H s g (k + 1) = bst H s g k := by
  simp only [bst]; exact if_neg h
theorem bst_one (H : Int → Int) (s g : Int) : bst H s g 1 = 1 := by simp [bst]
set_option maxRecDepth 20000 in
set_option maxHeartbeats 1000000 in
theorem iBestR_no (A : Option Addr) (c : Nat) (xs : List Int) (e no s g t l C : Int) (w : World) (X : Hid (RdH w A xs)) (hn : xs.length ≤ 1048576) (hh : xs.all okH = true) (hC : codeP xs e no s g t l = C) (h0 : C ≠ 0) :
    Calls Try.prog 23 #[dk A xs.length c e no, .int .i64 s, .int .i64 g, .int .i64 t, .int .i64 l] w fun x w' => x = .returned (.tuple #[.int .i64 0, fr 0 0, .int .i64 C]) ∧ Gr w w' := by
  have HK := hid fun w' (hg : Gr w w') => iCheckP A c xs e no s g t l w' (hid (X.out.keep hg)) hn hh
  rw [hC] at HK
  have c2 : ((C : Int) != 0) = true := by simpa using h0
  clear hh hC h0
  go_enter Try.func23, Try.ntmps23
  go_wp2_with fail
  go_step3
  go_wp2_with fail
  refine (HK.out _ (((Gr.refl w).al _).al _)).mono ?_
  rintro e w1 ⟨rfl, hg1⟩
  obtain ⟨x1_0, x1_1, hz1, g1⟩ := alloc2 hg1
  obtain ⟨_, _, _⟩ := cells3 x1_0
  have _ := fz x1_0
  have _ := ltb x1_0
  obtain ⟨_, _⟩ := cells2 x1_1
  have _ := fz x1_1
  have _ := ltb x1_1
  have X1_0 := hid x1_0; clear x1_0
  have X1_1 := hid x1_1; clear x1_1
  have G1 := hid (g1)
  clear hg1 g1
  go_wp2_with fail
  rw [Exit.noGoto_ret]
  refine bodyPost_ret (v := .tuple #[.int .i64 0, fr 0 0, .int .i64 C]) (by simp [results, Try.results23, go_sem, *]) rfl ⟨rfl, (G1.out.setCell (by simp) _).setCell (by simp) _⟩
set_option maxRecDepth 20000 in
set_option maxHeartbeats 1000000 in
theorem iBestR_yes (A : Option Addr) (c : Nat) (xs : List Int) (e no s g t l : Int) (w : World) (X : Hid (RdH w A xs)) (hn : xs.length ≤ 1048576) (hh : xs.all okH = true) (hc : xs.length ≤ c) (hC : codeP xs e no s g t l = 0) :
    Calls Try.prog 23 #[dk A xs.length c e no, .int .i64 s, .int .i64 g, .int .i64 t, .int .i64 l] w fun x w' => x = .returned (.tuple #[.int .i64 (bst (headF xs e no l) s g t.toNat), fr (redP (rpS (headF xs e no l) s g (bst (headF xs e no l) s g t.toNat)) (bst (headF xs e no l) s g t.toNat)) (redQ (rpS (headF xs e no l) s g (bst (headF xs e no l) s g t.toNat)) (bst (headF xs e no l) s g t.toNat)), .int .i64 0]) ∧ Gr w w' := by
  have HK := hid fun w' (hg : Gr w w') => iCheckP A c xs e no s g t l w' (hid (X.out.keep hg)) hn hh
  obtain ⟨hR, hB⟩ := codeP_zero hC
  have HRP := hid fun t' (hb : RpB s g t') bl bk bd m w' (hx : Hid (RdH w' A xs)) hr => iRepeat A c xs e no l s g t' bl bk bd m w' hx hR hc hb hr
  obtain ⟨g1, g2, g3, g4, g5, g6⟩ := hB
  rw [hC] at HK
  generalize headF xs e no l = H at *
  have HB := hid fun t' (h1 : 1 ≤ t') (h2 : t' ≤ t) => (⟨g1, g2, g3, g4, h1, by omega⟩ : RpB s g t')
  clear hh hC hR
  go_enter Try.func23, Try.ntmps23
  go_wp2_with fail
  go_step3
  go_wp2_with fail
  refine (HK.out _ (((Gr.refl w).al _).al _)).mono ?_
  rintro e w1 ⟨rfl, hg1⟩
  obtain ⟨x1_0, x1_1, hz1, g1⟩ := alloc2 hg1
  obtain ⟨_, _, _⟩ := cells3 x1_0
  have _ := fz x1_0
  have _ := ltb x1_0
  obtain ⟨_, _⟩ := cells2 x1_1
  have _ := fz x1_1
  have _ := ltb x1_1
  have X1_0 := hid x1_0; clear x1_0
  have X1_1 := hid x1_1; clear x1_1
  have G1 := hid (g1)
  clear hg1 g1
  go_wp2_with fail
  refine (iReaderOf H A xs.length c e no l _).mono ?_
  rintro x w2 ⟨bl, bk, bd, m, rfl, hr, hm, hg2⟩
  have RR := hid hr; have G2 := hid (G1.out.trans hg2); have hs1 := G1.out.size
  have HM := hid (Nat.le_trans hs1 hm)
  have XF := hid (hg2.keep X1_1.out)
  have hmf := hid (show w.heap.size + 1 ≠ m by have := ltb X1_1.out; omega)
  clear hr hg2 hm
  go_wp2_with fail
  refine (HRP.out 1 (HB.out 1 (by omega) g5) bl bk bd m _ (hid (X.out.keep G2.out)) RR.out).mono ?_
  rintro x w3 ⟨rfl, hr3, ho⟩
  have XF3 := hid (ho.heapKeep XF.out hmf.out)
  have G3 := hid (ho.2 w G2.out HM.out)
  have R3 := hid hr3
  have L3 := hid hr3.lts
  have hs3 := G3.out.size
  have hfl := ltb XF3.out
  clear ho hr3
  go_wp2_with fail
  go_step3
  go_wp2_with fail
  go_loopw [16] (fun u wr => ∃ (k : Nat), 1 ≤ k ∧ u = .int .i64 ((k : Int) + 1) ∧ (k : Int) ≤ t ∧ Gr w wr ∧ wr.heap[w.heap.size + 1]? = some (.cells #[.int .i64 0, .int .i64 0] 41) ∧ wr.heap[w3.heap.size]? = some (.cells #[.int .i64 g, .int .i64 (bst H s g k), .int .i64 (rpS H s g (bst H s g k)), .int .i64 (rpK H s g (bst H s g k))] 69) ∧ Rdr wr H l #[.slice A xs.length c, .int .i64 e, .int .i64 no] bl bk bd m) (fun u _ => (t + 1 - intOf u).toNat)
  case atStart =>
    refine ⟨1, by omega, rfl, g5, G3.out.al _, ((Gr.refl _).al _).keep XF3.out, ?_, R3.out.keep ((Gr.refl _).al _)⟩
    rw [bst_one]
    exact (alloc1 (Gr.refl _)).1
  case round =>
    obtain ⟨k, hk1, rfl, hk, hg, hx1, hx2, hrr⟩ := hrel
    have HG := hid hg; have Y1 := hid hx1; have Y2 := hid hx2; have YR := hid hrr
    have hmb := map_ne hx2 hrr.xm.choose_spec.choose_spec.1
    have hsg := hg.size
    obtain ⟨q1, q2, q3⟩ := bst_bd H s g k
    have q3 := q3 hk1
    clear hg hx1 hx2 hrr
    by_cases hlt : (k : Int) + 1 ≤ t
    · have hBk := HB.out ((k : Int) + 1) (by omega) hlt
      have hBb := HB.out (bst H s g k) q1 (by omega)
      obtain ⟨_, _, z1, z2⟩ := rp_bd (H := H) hBk
      obtain ⟨_, _, z1', z2'⟩ := rp_bd (H := H) hBb
      obtain ⟨m1, m2⟩ := tg_bd hBk
      obtain ⟨m1', m2'⟩ := tg_bd hBb
      have HNR := hid fun w' => iNearer g ((k : Int) + 1) (rpS H s g ((k : Int) + 1)) (rpK H s g ((k : Int) + 1)) (bst H s g k) (rpS H s g (bst H s g k)) (rpK H s g (bst H s g k)) w' (by omega) (by omega) m1 (by omega) (by omega) (by omega) m1' (by omega) (by omega) (by omega) (by omega) (by omega)
      have HBK := hid hBk
      clear z1 z2 z1' z2' m1 m2 m1' m2' hBk hBb
      by_cases hnr : offA H s g ((k : Int) + 1) * bst H s g k < offA H s g (bst H s g k) * ((k : Int) + 1)
      · have hd : decide (((rpS H s g ((k : Int) + 1) - ((k : Int) + 1) * g).natAbs : Int) * bst H s g k < ((rpS H s g (bst H s g k) - bst H s g k * g).natAbs : Int) * ((k : Int) + 1)) = true := by simpa [offA] using hnr
        rw [hd] at HNR
        have hby := hid (bst_yes hnr)
        clear hd hnr
        go_wp2_with fail
        refine (HRP.out ((k : Int) + 1) HBK.out bl bk bd m _ (hid (X.out.keep HG.out)) YR.out).mono ?_
        rintro x w4 ⟨rfl, hr4, ho⟩
        have Z1 := hid (ho.heapKeep Y1.out hmf.out)
        have Z2 := hid (ho.heapKeep Y2.out hmb)
        have G4 := hid (ho.2 w HG.out HM.out)
        have R4 := hid hr4
        have L4 := hid hr4.lts
        clear ho hr4
        obtain ⟨_, _, _, _⟩ := cells4 Z2.out
        have _ := fz Z2.out
        have _ := ltb Z2.out
        go_wp2_with fail
        refine (HNR.out _).mono ?_
        rintro e w5 ⟨rfl, hg5⟩
        have R5 := hid (R4.out.keep (((Gr.refl _).al _).trans hg5))
        obtain ⟨x0, hz, g7⟩ := alloc1 hg5
        have x1 := g7.keep Z1.out
        have x2 := g7.keep Z2.out
        obtain ⟨_, _, _, _⟩ := cells4 x0
        have _ := fz x0
        obtain ⟨_, _, _, _⟩ := cells4 x2
        have _ := fz x2
        have V1 := hid x1; have V2 := hid x2
        have G5 := hid (G4.out.trans g7)
        clear hg5 x0 x1 x2 g7
        go_wp2_with fail
        obtain ⟨l1, l2, l3, l4⟩ := L3.out
        refine ⟨⟨k + 1, by omega, by simp, by omega, (((G5.out.setCell hs3 _).setCell hs3 _).setCell hs3 _).setCell hs3 _, set4_old V1.out (by omega), ?_, R5.out.get4 (by omega) (by omega) (by omega) (by omega)⟩, by simp [intOf]; omega⟩
        rw [hby.out]
        exact set4_new V2.out
      · have hd : decide (((rpS H s g ((k : Int) + 1) - ((k : Int) + 1) * g).natAbs : Int) * bst H s g k < ((rpS H s g (bst H s g k) - bst H s g k * g).natAbs : Int) * ((k : Int) + 1)) = false := by simpa [offA] using hnr
        rw [hd] at HNR
        have hby := hid (bst_no hnr)
        clear hd hnr
        go_wp2_with fail
        refine (HRP.out ((k : Int) + 1) HBK.out bl bk bd m _ (hid (X.out.keep HG.out)) YR.out).mono ?_
        rintro x w4 ⟨rfl, hr4, ho⟩
        have Z1 := hid (ho.heapKeep Y1.out hmf.out)
        have Z2 := hid (ho.heapKeep Y2.out hmb)
        have G4 := hid (ho.2 w HG.out HM.out)
        have R4 := hid hr4
        have L4 := hid hr4.lts
        clear ho hr4
        obtain ⟨_, _, _, _⟩ := cells4 Z2.out
        have _ := fz Z2.out
        have _ := ltb Z2.out
        go_wp2_with fail
        refine (HNR.out _).mono ?_
        rintro e w5 ⟨rfl, hg5⟩
        have R5 := hid (R4.out.keep (((Gr.refl _).al _).trans hg5))
        obtain ⟨x0, hz, g7⟩ := alloc1 hg5
        have x1 := g7.keep Z1.out
        have x2 := g7.keep Z2.out
        obtain ⟨_, _, _, _⟩ := cells4 x0
        have _ := fz x0
        obtain ⟨_, _, _, _⟩ := cells4 x2
        have _ := fz x2
        have V1 := hid x1; have V2 := hid x2
        have G5 := hid (G4.out.trans g7)
        clear hg5 x0 x1 x2 g7
        go_wp2_with fail
        refine ⟨⟨k + 1, by omega, by simp, by omega, G5.out, V1.out, ?_, R5.out⟩, by simp [intOf]; omega⟩
        rw [hby.out]
        exact V2.out
    · have hkt : t.toNat = k := by omega
      have hBb := HB.out (bst H s g k) q1 (by omega)
      obtain ⟨_, _, z1, z2⟩ := rp_bd (H := H) hBb
      have HME := hid fun w' => iMeanR g (bst H s g k) (rpS H s g (bst H s g k)) (rpK H s g (bst H s g k)) w' (by omega) (by omega) q1 (by omega)
      have HKT := hid hkt
      clear z1 z2 hBb hkt
      obtain ⟨_, _⟩ := cells2 Y1.out
      have _ := fz Y1.out
      have _ := ltb Y1.out
      obtain ⟨_, _, _, _⟩ := cells4 Y2.out
      have _ := fz Y2.out
      have _ := ltb Y2.out
      go_wp2_with fail
      refine (HME.out _).mono ?_
      rintro e w1 ⟨rfl, hg1⟩
      have x1_1 := hg1.keep Y1.out
      have x1_2 := hg1.keep Y2.out
      obtain ⟨_, _⟩ := cells2 x1_1
      have _ := fz x1_1
      have _ := ltb x1_1
      obtain ⟨_, _, _, _⟩ := cells4 x1_2
      have _ := fz x1_2
      have _ := ltb x1_2
      have X1_1 := hid x1_1; clear x1_1
      have X1_2 := hid x1_2; clear x1_2
      have G1 := hid (HG.out.trans hg1)
      clear hg1
      go_wp2_with fail
      have M1 := hid (ne_of X1_2.out X1_1.out (by first | omega))
      refine wp_regO 6 5 11 59 (by kernel_rfl) (by kernel_rfl) rfl (by decide) rfl rfl rfl rfl (by kernel_rfl) (((Gr.refl _).al _).keep X1_1.out) (by kernel_rfl) ?_
      apply Exists.intro; apply Exists.intro
      refine ⟨fun wb hb => ?_, ?_⟩
      · obtain ⟨_, _⟩ := atO2 hb (alloc1 (Gr.refl _)).1 (by omega)
        obtain ⟨_, _, _, _⟩ := atO4 hb (((Gr.refl _).al _).keep X1_2.out) M1.out
        simp only [headOps, List.contains, List.elem, Nat.reduceAdd, Nat.reduceBEq, reduceIte, Bool.false_eq_true, dumOp]
        repeat (first | go_big_quiet_step (first | (fail)) | quiet_step (fail))
        exact wpQuiet_nil rfl
      refine ⟨rfl, ⟨rfl, by simp [Value.oneCell']⟩, fun w2 hg2 => ?_⟩
      have x2_0 := hg2.keep (row_new (((Gr.refl _).al _).keep X1_1.out))
      have x2_1 := hg2.keep (row_old (((Gr.refl _).al _).keep X1_2.out) M1.out)
      have x2_2 := hg2.keep (row_old (alloc1 (Gr.refl _)).1 (by omega))
      obtain ⟨_, _⟩ := cells2 x2_0
      have _ := fz x2_0
      have _ := ltb x2_0
      obtain ⟨_, _, _, _⟩ := cells4 x2_1
      have _ := fz x2_1
      have _ := ltb x2_1
      obtain ⟨_, _⟩ := cells2 x2_2
      have _ := fz x2_2
      have _ := ltb x2_2
      have X2_0 := hid x2_0; clear x2_0
      have X2_1 := hid x2_1; clear x2_1
      have X2_2 := hid x2_2; clear x2_2
      have G2 := hid ((((G1.out).al _).setRow (by first | omega | (simp; done) | (simp; omega)) _).trans hg2); clear hg2
      go_wp2_with fail
      try rw [Exit.noGoto_ret]
      refine bodyPost_ret (v := .tuple #[.int .i64 (bst H s g k), fr (redP (rpS H s g (bst H s g k)) (bst H s g k)) (redQ (rpS H s g (bst H s g k)) (bst H s g k)), .int .i64 0]) (by simp [results, Try.results23, go_sem, *]) rfl ⟨by rw [HKT.out], ?_⟩
      exact G2.out
end Go.Proofs.Ytljmbdjojogbjaa
