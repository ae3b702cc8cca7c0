/- The law FnExactResidualsOf of the laws package returns true for all arguments, valid or not; they read behind the call as before it. No condition. -/
import Derived.Test.YtjhlpaeenjbljaaRows
import Derived.Test.YtjhlpaeenjbljaaUd
import Derived.Test.YtjhlpaeenjbljaaRegL
import Derived.Test.YtjhlpaeenjbljaaMk
import Derived.Test.YtjhlpaeenjbljaaRs
import Derived.Test.YtjhlpaeenjbljaaRo
import Derived.Test.YtjhlpaeenjbljaaOb
import Derived.Test.YtjhlpaeenjbljaaFacts
import Derived.ProofKit
import Derived.Carry
import Derived.Lib.SmallJoins
namespace Go.Proofs.Ytjhlpaeenjbljaa
open Go.RowKit Go.Sort

set_option maxRecDepth 20000 in
set_option maxHeartbeats 8000000 in
theorem lawResidualsOf (n0 : Int) (b0 : Bool) (p0 : Int) (q0 : Int) (A0 : Option Addr) (cap0 : Nat) (xs0 : List Obv) (A1 : Option Addr) (cap1 : Nat) (xs1 : List (Int × Int)) (zs : List (Int × Int)) (C : Int) (w : World) (hr0 : RawO w (.slice A0 xs0.length cap0) xs0) (hr1 : RawF w (.slice A1 xs1.length cap1) xs1) (hxy : xs0.length + xs1.length ≤ 1048576) (hzs : zs.length ≤ 1048576)
    (hs : ∀ (g0 : Nat) (A1 : Option Addr) (c0 : Nat) (c1 : Nat) (w : World), xs0.length ≤ c0 → xs1.length ≤ c1 → Hid (RdO w (some ⟨g0, 0, none⟩) xs0) → Hid (RdF w A1 xs1) → Calls Try.prog 24 #[tbl n0 (some ⟨g0, 0, none⟩) xs0.length c0 b0 p0 q0, .slice A1 xs1.length c1] w fun e w' => GivesF w w' e zs C)
    (hi : ∀ (g0 : Nat) (A1 : Option Addr) (c0 : Nat) (c1 : Nat) (w : World), xs0.length ≤ c0 → xs1.length ≤ c1 → Hid (RdO w (some ⟨g0, 0, none⟩) xs0) → Hid (RdF w A1 xs1) → Calls Try.prog 27 #[tbl n0 (some ⟨g0, 0, none⟩) xs0.length c0 b0 p0 q0, .slice A1 xs1.length c1] w fun e w' => GivesF w w' e zs C) :
    Calls Try.prog 5 #[tbl n0 A0 xs0.length cap0 b0 p0 q0, .slice A1 xs1.length cap1] w fun x w' => x = .returned (.bool true) ∧ Gr w w' := by
  have HS := hid hs; have HI := hid hi
  have HR0 := hid hr0; have HN0 := hid (show xs0.length ≤ 1048576 by omega)
  have HR1 := hid hr1; have HN1 := hid (show xs1.length ≤ 1048576 by omega)
  have HSZ1 := hid fun (w : World) => (szF A1 xs1.length cap1 (1048576 - (xs0.length : Int)) w (by omega) (by omega) (by omega)).mono (R' := fun e w' => e = .returned (.int .i64 (1048576 - (xs0.length : Int) - (xs1.length : Int))) ∧ Gr w w') fun e w' h => ⟨by rw [h.1, if_pos (by omega)], h.2⟩
  clear hs hi hr0 hr1
  go_enter Try.func5, Try.ntmps5
  go_wp2_with fail
  refine (szTb_yes _ _ _ _ _ _ _ _ _ (by omega) (by omega)).mono ?_
  rintro e w1 ⟨rfl, hg1⟩
  obtain ⟨x1_0, hz1, g1⟩ := alloc1 hg1
  obtain ⟨_, _, _, _, _⟩ := cells5 x1_0
  have _ := fz x1_0
  have _ := ltb x1_0
  have X1_0 := hid x1_0; clear x1_0
  have G1 := hid (g1)
  clear hg1 g1
  go_wp2_with fail
  refine (HSZ1.out _).mono ?_
  rintro e w2 ⟨rfl, hg2⟩
  have x2_1 := hg2.keep X1_0.out
  obtain ⟨_, _, _, _, _⟩ := cells5 x2_1
  have _ := fz x2_1
  have _ := ltb x2_1
  have X2_1 := hid x2_1; clear x2_1
  have G2 := hid (G1.out.trans hg2)
  clear hg2
  have B02 := hid X2_1.out
  have BB0 := hid (ltb X2_1.out)
  go_wp2_with fail
  refine (toTb_any _ _ _ _ _ _ xs0 _ HN0.out (HR0.out.keep G2.out)).mono ?_
  rintro e w3 ⟨gXA0, rfl, xn, bn, hg3⟩
  have XA03 := hid xn; have BUXA0 := hid (ltb xn)
  have BLXA0 := hid (show w2.heap.size ≤ gXA0 by simpa using bn); clear bn
  have B03 := hid (hg3.keep B02.out); have G3 := hid (G2.out.trans hg3); have HZ3 := hid hg3.size
  clear B02
  clear xn hg3
  go_wp2_with fail
  refine (toFracS_any _ xs1 _ HN1.out (HR1.out.keep G3.out)).mono ?_
  rintro e w4 ⟨he, xn, hg4⟩
  subst he
  have XA14 := hid xn; have BUXA1 := hid (ltb xn)
  have B04 := hid (hg4.keep B03.out); have XA04 := hid (hg4.keep XA03.out); have G4 := hid (G3.out.trans hg4); have HZ4 := hid hg4.size
  clear B03 XA03
  clear xn hg4
  go_wp2_with fail
  refine (HS.out _ _ _ _ _ (Nat.le_refl _) (Nat.le_refl _) (hid (RdO.of_block XA04.out)) (hid (RdF.of_block XA14.out))).mono ?_
  rintro e w5 ⟨A3, c3, rfl, on_, hg5⟩
  have L3 := hid (own_lt on_); have O5 := hid on_
  have B05 := hid (hg5.keep B04.out); have G5 := hid (G4.out.trans hg5); have HZ5 := hid hg5.size
  clear B04 XA04 XA14
  clear on_ hg5
  obtain ⟨_, _, _, _, _⟩ := cells5 B05.out
  have _ := ltb B05.out
  go_wp2_with fail
  refine (toTb_any _ _ _ _ _ _ xs0 _ HN0.out (HR0.out.keep G5.out)).mono ?_
  rintro e w6 ⟨gX0_, rfl, xn, bn, hg6⟩
  have X0_6 := hid xn; have BUX0_ := hid (ltb xn)
  have BLX0_ := hid (show w5.heap.size ≤ gX0_ by simpa using bn); clear bn
  have B06 := hid (hg6.keep B05.out); have O6 := hid (own_gr O5.out hg6); have G6 := hid (G5.out.trans hg6); have HZ6 := hid hg6.size
  clear B05 O5
  clear xn hg6
  go_wp2_with fail
  have alg : (w6.alloc (.cells #[.int .i64 n0, .slice (some ⟨gX0_, 0, none⟩) xs0.length xs0.length, .bool b0, .int .i64 p0, .int .i64 q0] 50)).heap.size = w6.heap.size + 1 := by simp
  refine (toFracS_any _ xs1 _ HN1.out (HR1.out.keep (G6.out.al _))).mono ?_
  rintro e w7 ⟨he, xn, hg7⟩
  rw [alg] at he xn
  subst he
  have hal := ((Gr.refl w6).al (.cells #[.int .i64 n0, .slice (some ⟨gX0_, 0, none⟩) xs0.length xs0.length, .bool b0, .int .i64 p0, .int .i64 q0] 50)).trans hg7
  have K07 := hid (hg7.keep (alloc1 (w := w6) (A := (.cells #[.int .i64 n0, .slice (some ⟨gX0_, 0, none⟩) xs0.length xs0.length, .bool b0, .int .i64 p0, .int .i64 q0] 50)) (Gr.refl _)).1)
  have X1_7 := hid xn; have BUX1_ := hid (ltb xn)
  have B07 := hid (hal.keep B06.out); have O7 := hid (own_gr O6.out hal); have X0_7 := hid (hal.keep X0_6.out); have G7 := hid (G6.out.trans hal); have HZ7 := hid hal.size
  clear B06 O6 X0_6
  clear alg hg7
  clear xn hal
  obtain ⟨_, _, _, _, _⟩ := cells5 K07.out
  have _ := ltb K07.out
  go_wp2_with fail
  refine (HI.out _ _ _ _ _ (Nat.le_refl _) (Nat.le_refl _) (hid (RdO.of_block X0_7.out)) (hid (RdF.of_block X1_7.out))).mono ?_
  rintro e w8 ⟨Ag, cg, rfl, on_, hg8⟩
  have LG := hid (own_lt on_); have OG8 := hid on_
  have B08 := hid (hg8.keep B07.out); have O8 := hid (own_gr O7.out hg8); have X0_8 := hid (hg8.keep X0_7.out); have X1_8 := hid (hg8.keep X1_7.out); have K08 := hid (hg8.keep K07.out); have G8 := hid (G7.out.trans hg8); have HZ8 := hid hg8.size
  clear B07 O7 X0_7 X1_7 K07
  clear on_ hg8
  go_wp2_with fail
  refine (eqF_any _ _ _ _ zs _ (hid (RdF.of_ownF OG8.out)) (hid (RdF.of_ownF O8.out)) hzs).mono ?_
  rintro e w9 ⟨rfl, hg⟩
  have B09 := hid (hg.keep B08.out); have O9 := hid (own_gr O8.out hg); have X0_9 := hid (hg.keep X0_8.out); have X1_9 := hid (hg.keep X1_8.out); have K09 := hid (hg.keep K08.out); have OG9 := hid (own_gr OG8.out hg); have G9 := hid (G8.out.trans hg); have HZ9 := hid hg.size
  clear B08 O8 X0_8 X1_8 K08 OG8
  clear hg
  go_wp2_with fail
  refine wp_regG1 4 2 56 [3] [2, 3] [0, 1, 2] (fun g => tbl n0 (some ⟨g, 0, none⟩) xs0.length xs0.length b0 p0 q0) (.cells (rowO xs0 []) 104) (by kernel_rfl) (by kernel_rfl) (by kernel_rfl) rfl rfl ?_
  apply Exists.intro; apply Exists.intro
  refine ⟨fun wb hb => ?_, ?_, fun g wb hb xg => ?_, fun g8 w10 hg _ _ => ?_⟩
  · obtain ⟨_, _, _, _, _⟩ := hb.at5 B09.out
    obtain ⟨_, _, _, _, _⟩ := hb.at5 K09.out
    simp only [headOps, List.contains, List.elem, Nat.reduceAdd, Nat.reduceBEq, reduceIte, Bool.false_eq_true, dumOp]
    repeat (first | go_big_quiet_step (first | (fail)) | quiet_step (fail))
    exact wpQuiet_nil rfl
  · intro o ho wb hb
    cases ho
    exact ⟨_, _, by kernel_rfl, toTb_any _ _ _ _ _ _ xs0 wb HN0.out (HR0.out.keep (G9.out.trans hb))⟩
  · obtain ⟨_, _, _, _, _⟩ := hb.at5 B09.out
    obtain ⟨_, _, _, _, _⟩ := hb.at5 K09.out
    have HXA := hid (hb.keep X0_9.out); have HXB := hid xg
    simp only [headOps, List.contains, List.elem, Nat.reduceAdd, Nat.reduceBEq, reduceIte, Bool.false_eq_true, dumOp]
    repeat (first | go_big_quiet_step (first | (go_at_call 29; exact Calls.of_gr (eqTb_any _ _ _ _ _ _ _ _ xs0 _ (hid (RdO.of_block (Gr.keep (w := wb) ⟨⟨_, _⟩, rfl⟩ HXA.out))) (hid (RdO.of_block (Gr.keep (w := wb) ⟨⟨_, _⟩, rfl⟩ HXB.out))) HN0.out))) | quiet_step (fail))
    exact wpQuiet_nil rfl
  simp only [List.drop_succ_cons, List.drop_zero]
  have B010 := hid (hg.keep B09.out); have O10 := hid (own_gr O9.out hg); have X0_10 := hid (hg.keep X0_9.out); have X1_10 := hid (hg.keep X1_9.out); have K010 := hid (hg.keep K09.out); have OG10 := hid (own_gr OG9.out hg); have G10 := hid (G9.out.trans hg); have HZ10 := hid hg.size
  clear B09 O9 X0_9 X1_9 K09 OG9
  clear hg
  go_wp2_with fail
  refine (toFracS_any _ xs1 _ HN1.out (HR1.out.keep G10.out)).mono ?_
  rintro e w11 ⟨he, xn, hg11⟩
  subst he
  have YN11 := hid xn; have BUYN := hid (ltb xn)
  have B011 := hid (hg11.keep B010.out); have O11 := hid (own_gr O10.out hg11); have X0_11 := hid (hg11.keep X0_10.out); have X1_11 := hid (hg11.keep X1_10.out); have K011 := hid (hg11.keep K010.out); have OG11 := hid (own_gr OG10.out hg11); have G11 := hid (G10.out.trans hg11); have HZ11 := hid hg11.size
  clear B010 O10 X0_10 X1_10 K010 OG10
  clear xn hg11
  go_wp2_with fail
  refine (eqF_any _ _ _ _ xs1 _ (hid (RdF.of_block X1_11.out)) (hid (RdF.of_block YN11.out)) HN1.out).mono ?_
  rintro e w12 ⟨rfl, hg⟩
  have B012 := hid (hg.keep B011.out); have O12 := hid (own_gr O11.out hg); have X0_12 := hid (hg.keep X0_11.out); have X1_12 := hid (hg.keep X1_11.out); have K012 := hid (hg.keep K011.out); have OG12 := hid (own_gr OG11.out hg); have G12 := hid (G11.out.trans hg); have HZ12 := hid hg.size
  clear B011 O11 X0_11 X1_11 K011 OG11 YN11
  clear hg
  obtain ⟨_, _, _, _, _⟩ := cells5 K012.out
  have _ := ltb K012.out
  go_wp2_with fail
  refine (markTb_any n0 gX0_ xs0.length xs0.length b0 p0 q0 1 (rowO xs0 []) _ _ X0_12 (by rw [rowO_size]; simp) HN0.out (by omega) (by omega)).mono ?_
  rintro e w13 ⟨rfl, on⟩
  have B013 := hid (on.1 _ _ (by  have := HZ3.out; have := HZ4.out; have := HZ5.out; have := HZ6.out; have := HZ7.out; have := HZ8.out; have := HZ9.out; have := HZ10.out; have := HZ11.out; have := HZ12.out; have := BB0.out; have := BUXA0.out; have := BLXA0.out; have := BUXA1.out; have := BUX0_.out; have := BLX0_.out; have := BUX1_.out; have := BUYN.out; omega) B012.out)
  have R13 := hid ((RdF.of_ownF O12.out).only on (fun ad he => by have hl := L3.out ad he; have := HZ3.out; have := HZ4.out; have := HZ5.out; have := HZ6.out; have := HZ7.out; have := HZ8.out; have := HZ9.out; have := HZ10.out; have := HZ11.out; have := HZ12.out; have := BB0.out; have := BUXA0.out; have := BLXA0.out; have := BUXA1.out; have := BUX0_.out; have := BLX0_.out; have := BUX1_.out; have := BUYN.out; omega))
  have X1_13 := hid (on.1 _ _ (by  have := HZ3.out; have := HZ4.out; have := HZ5.out; have := HZ6.out; have := HZ7.out; have := HZ8.out; have := HZ9.out; have := HZ10.out; have := HZ11.out; have := HZ12.out; have := BB0.out; have := BUXA0.out; have := BLXA0.out; have := BUXA1.out; have := BUX0_.out; have := BLX0_.out; have := BUX1_.out; have := BUYN.out; omega) X1_12.out)
  have OG13 := hid (own_only OG12.out on (fun ad he => by have hl := LG.out ad he; have := HZ3.out; have := HZ4.out; have := HZ5.out; have := HZ6.out; have := HZ7.out; have := HZ8.out; have := HZ9.out; have := HZ10.out; have := HZ11.out; have := HZ12.out; have := BB0.out; have := BUXA0.out; have := BLXA0.out; have := BUXA1.out; have := BUX0_.out; have := BLX0_.out; have := BUX1_.out; have := BUYN.out; omega))
  have G13 := hid (on.2 w G12.out (by have := G2.out.size; have := HZ3.out; have := HZ4.out; have := HZ5.out; have := HZ6.out; have := HZ7.out; have := HZ8.out; have := HZ9.out; have := HZ10.out; have := HZ11.out; have := HZ12.out; have := BB0.out; have := BUXA0.out; have := BLXA0.out; have := BUXA1.out; have := BUX0_.out; have := BLX0_.out; have := BUX1_.out; have := BUYN.out; omega))
  clear on B012 O12 X0_12 X1_12 K012 OG12
  have HZ13 : Hid (w.heap.size ≤ w13.heap.size) := hid G13.out.size
  go_wp2_with fail
  refine (markF_any _ _ _ _ (flatA xs1) _ _ X1_13 (by unfold flatA; simp [flatL_len]) HN1.out (by omega) (by omega)).mono ?_
  rintro e w14 ⟨rfl, _, on⟩
  have B014 := hid (on.1 _ _ (by  have := HZ3.out; have := HZ4.out; have := HZ5.out; have := HZ6.out; have := HZ7.out; have := HZ8.out; have := HZ9.out; have := HZ10.out; have := HZ11.out; have := HZ12.out; have := HZ13.out; have := BB0.out; have := BUXA0.out; have := BLXA0.out; have := BUXA1.out; have := BUX0_.out; have := BLX0_.out; have := BUX1_.out; have := BUYN.out; omega) B013.out)
  have OG14 := hid (own_only OG13.out on (fun ad he => by have hl := LG.out ad he; have := HZ3.out; have := HZ4.out; have := HZ5.out; have := HZ6.out; have := HZ7.out; have := HZ8.out; have := HZ9.out; have := HZ10.out; have := HZ11.out; have := HZ12.out; have := HZ13.out; have := BB0.out; have := BUXA0.out; have := BLXA0.out; have := BUXA1.out; have := BUX0_.out; have := BLX0_.out; have := BUX1_.out; have := BUYN.out; omega))
  have R14 := hid (R13.out.only on (fun ad he => by have hl := L3.out ad he; have := HZ3.out; have := HZ4.out; have := HZ5.out; have := HZ6.out; have := HZ7.out; have := HZ8.out; have := HZ9.out; have := HZ10.out; have := HZ11.out; have := HZ12.out; have := HZ13.out; have := BB0.out; have := BUXA0.out; have := BLXA0.out; have := BUXA1.out; have := BUX0_.out; have := BLX0_.out; have := BUX1_.out; have := BUYN.out; omega))
  have G14 := hid (on.2 w G13.out (by have := G2.out.size; have := HZ3.out; have := HZ4.out; have := HZ5.out; have := HZ6.out; have := HZ7.out; have := HZ8.out; have := HZ9.out; have := HZ10.out; have := HZ11.out; have := HZ12.out; have := HZ13.out; have := BB0.out; have := BUXA0.out; have := BLXA0.out; have := BUXA1.out; have := BUX0_.out; have := BLX0_.out; have := BUX1_.out; have := BUYN.out; omega))
  clear on B013 X1_13 OG13 R13
  have HZ14 : Hid (w.heap.size ≤ w14.heap.size) := hid G14.out.size
  go_wp2_with fail
  refine (eqF_any _ _ _ _ zs _ (hid (RdF.of_ownF OG14.out)) R14 hzs).mono ?_
  rintro e w15 ⟨rfl, hg⟩
  have B015 := hid (hg.keep B014.out); have OG15 := hid (own_gr OG14.out hg); have R15 := hid (R14.out.keep hg); have G15 := hid (G14.out.trans hg); have HZ15 := hid hg.size
  clear B014 OG14 R14
  clear hg
  go_wp2_with fail
  refine (markOwnF2 _ _ _ _ _ 1 _ OG15 hzs (by omega) (by omega)).mono ?_
  rintro e w16 ⟨rfl, ⟨gg, hgg, on⟩, m_, ot⟩
  have M16 := hid m_
  have R16 := hid (R15.out.only on (fun ad he => by have hl := L3.out ad he; have := HZ3.out; have := HZ4.out; have := HZ5.out; have := HZ6.out; have := HZ7.out; have := HZ8.out; have := HZ9.out; have := HZ10.out; have := HZ11.out; have := HZ12.out; have := HZ13.out; have := HZ14.out; have := HZ15.out; have := BB0.out; have := BUXA0.out; have := BLXA0.out; have := BUXA1.out; have := BUX0_.out; have := BLX0_.out; have := BUX1_.out; have := BUYN.out; omega))
  have B016 := hid (ot _ _ _ (by decide) B015.out)
  have G16 := hid (on.2 w G15.out (by have := G2.out.size; have := HZ3.out; have := HZ4.out; have := HZ5.out; have := HZ6.out; have := HZ7.out; have := HZ8.out; have := HZ9.out; have := HZ10.out; have := HZ11.out; have := HZ12.out; have := HZ13.out; have := HZ14.out; have := HZ15.out; have := BB0.out; have := BUXA0.out; have := BLXA0.out; have := BUXA1.out; have := BUX0_.out; have := BLX0_.out; have := BUX1_.out; have := BUYN.out; omega))
  clear on m_ ot B015 OG15 R15
  have HZ16 : Hid (w.heap.size ≤ w16.heap.size) := hid G16.out.size
  go_wp2_with fail
  refine (heldF_any _ _ _ _ _ M16 hzs (by omega) (by omega)).mono ?_
  rintro e w17 ⟨rfl, hg⟩
  have B017 := hid (hg.keep B016.out); have R17 := hid (R16.out.keep hg); have M17 := hid (M16.out.keep hg); have G17 := hid (G16.out.trans hg); have HZ17 := hid hg.size
  clear B016 R16 M16
  clear hg
  obtain ⟨_, _, _, _, _⟩ := cells5 B017.out
  have _ := ltb B017.out
  go_wp2_with fail
  refine (toTb_any _ _ _ _ _ _ xs0 _ HN0.out (HR0.out.keep G17.out)).mono ?_
  rintro e w18 ⟨gH0_, rfl, xn, bn, hg18⟩
  have H0_18 := hid xn; have BUH0_ := hid (ltb xn)
  have BLH0_ := hid (show w17.heap.size ≤ gH0_ by simpa using bn); clear bn
  have B018 := hid (hg18.keep B017.out); have R18 := hid (R17.out.keep hg18); have M18 := hid (M17.out.keep hg18); have G18 := hid (G17.out.trans hg18); have HZ18 := hid hg18.size
  clear B017 R17 M17
  clear xn hg18
  go_wp2_with fail
  refine (toFracS_any _ xs1 _ HN1.out (HR1.out.keep G18.out)).mono ?_
  rintro e w19 ⟨he, xn, hg19⟩
  subst he
  have H1_19 := hid xn; have BUH1_ := hid (ltb xn)
  have B019 := hid (hg19.keep B018.out); have R19 := hid (R18.out.keep hg19); have M19 := hid (M18.out.keep hg19); have H0_19 := hid (hg19.keep H0_18.out); have G19 := hid (G18.out.trans hg19); have HZ19 := hid hg19.size
  clear B018 R18 M18 H0_18
  clear xn hg19
  go_wp2_with fail
  refine (HI.out _ _ _ _ _ (Nat.le_refl _) (Nat.le_refl _) (hid (RdO.of_block H0_19.out)) (hid (RdF.of_block H1_19.out))).mono ?_
  rintro e w20 ⟨Ah, ch, rfl, on_, hg⟩
  have OH20 := hid on_
  have B020 := hid (hg.keep B019.out); have R20 := hid (R19.out.keep hg); have M20 := hid (M19.out.keep hg); have G20 := hid (G19.out.trans hg); have HZ20 := hid hg.size
  clear B019 R19 M19 H0_19 H1_19
  clear on_ hg
  go_wp2_with fail
  refine (eqF_any _ _ _ _ zs _ (hid (RdF.of_ownF OH20.out)) R20 hzs).mono ?_
  rintro e w21 ⟨rfl, hg⟩
  have B021 := hid (hg.keep B020.out); have M21 := hid (M20.out.keep hg); have G21 := hid (G20.out.trans hg); have HZ21 := hid hg.size
  clear B020 R20 M20 OH20
  clear hg
  go_wp2_with fail
  refine (heldF_any _ _ _ _ _ M21 hzs (by omega) (by omega)).mono ?_
  rintro e w22 ⟨rfl, hg⟩
  have B022 := hid (hg.keep B021.out); have M22 := hid (M21.out.keep hg); have G22 := hid (G21.out.trans hg); have HZ22 := hid hg.size
  clear B021 M21
  clear hg
  go_wp2_with fail
  go_ret
  exact ⟨rfl, G22.out⟩
set_option maxRecDepth 20000 in
set_option maxHeartbeats 400000 in
theorem lawResidualsOf_big (n0 : Int) (b0 : Bool) (p0 : Int) (q0 : Int) (A0 : Option Addr) (m0 cap0 : Nat) (A1 : Option Addr) (m1 cap1 : Nat) (w : World) (h : 1048576 < m0) (h2 : m0 ≤ 9223372036854775807) :
    Calls Try.prog 5 #[tbl n0 A0 m0 cap0 b0 p0 q0, .slice A1 m1 cap1] w fun e w' => e = .returned (.bool true) ∧ Gr w w' := by
  go_enter Try.func5, Try.ntmps5
  go_wp2_with fail
  refine (szTb_no _ _ _ _ _ _ _ _ _ (by omega) h2 (by omega) (by omega)).mono ?_
  rintro e w1 ⟨rfl, hg1⟩
  obtain ⟨x1_0, hz1, g1⟩ := alloc1 hg1
  obtain ⟨_, _, _, _, _⟩ := cells5 x1_0
  have _ := fz x1_0
  have _ := ltb x1_0
  have X1_0 := hid x1_0; clear x1_0
  have G1 := hid (g1)
  clear hg1 g1
  go_wp2
  go_ret
  exact ⟨rfl, G1.out⟩
set_option maxRecDepth 20000 in
set_option maxHeartbeats 400000 in
theorem lawResidualsOf_big2 (n0 : Int) (b0 : Bool) (p0 : Int) (q0 : Int) (A0 : Option Addr) (m0 cap0 : Nat) (A1 : Option Addr) (m1 cap1 : Nat) (w : World) (h0 : m0 ≤ 1048576) (h : 1048576 < m0 + m1) (h2 : m1 ≤ 9223372036854775807) :
    Calls Try.prog 5 #[tbl n0 A0 m0 cap0 b0 p0 q0, .slice A1 m1 cap1] w fun e w' => e = .returned (.bool true) ∧ Gr w w' := by
  have HSZ := hid fun (w : World) => (szF A1 m1 cap1 (1048576 - (m0 : Int)) w h2 (by omega) (by omega)).mono (R' := fun e w' => e = .returned (.int .i64 (-1)) ∧ Gr w w') fun e w' h => ⟨by rw [h.1, if_neg (by omega)], h.2⟩
  go_enter Try.func5, Try.ntmps5
  go_wp2_with fail
  refine (szTb_yes _ _ _ _ _ _ _ _ _ (by omega) (by omega)).mono ?_
  rintro e w1 ⟨rfl, hg1⟩
  obtain ⟨x1_0, hz1, g1⟩ := alloc1 hg1
  obtain ⟨_, _, _, _, _⟩ := cells5 x1_0
  have _ := fz x1_0
  have _ := ltb x1_0
  have X1_0 := hid x1_0; clear x1_0
  have G1 := hid (g1)
  clear hg1 g1
  go_wp2_with fail
  refine (HSZ.out _).mono ?_
  rintro e w2 ⟨rfl, hg2⟩
  have x2_1 := hg2.keep X1_0.out
  obtain ⟨_, _, _, _, _⟩ := cells5 x2_1
  have _ := fz x2_1
  have _ := ltb x2_1
  have X2_1 := hid x2_1; clear x2_1
  have G2 := hid (G1.out.trans hg2)
  clear hg2
  go_wp2
  go_ret
  exact ⟨rfl, G2.out⟩

open Go.ChangeShapes Go.WideShapes Go.ChangeAt Go.Joins
theorem laidOutResidualsOf : laidOutB Try.prog = true := by as_aux_lemma => kernel_rfl
set_option maxRecDepth 100000 in
theorem liftedResidualsOf (os : Os) (started : os.Started) (H : Type) (enc : TypeId × Value → H) :
    ReturnsInHanded {} Try.checked os 5 .any (Rows.fnExactResidualsOfSpec.pre6 enc Try.prog Try.f5 Rows.fnExactResidualsOfRow.domain false) (Rows.fnExactResidualsOfSpec.post enc Try.prog Try.f5 false true false false) := by
  refine returnsInHanded_of_change (C := Try.checked) ownNone started (by kernel_rfl) Try.func5
    (ChangeSpec.witness6 (enc := enc) (C := Try.checked) false ⟨#[], #[.agg #[.int .i64 0, .slice none 0 0, .bool false, .int .i64 0, .int .i64 0], .slice none 0 0], []⟩ 8 (by kernel_rfl) (by kernel_rfl) (by kernel_rfl) (by kernel_rfl)) ?_
  intro W base args ds gs before hval0 hW _ _
  have hval : ∀ (j : Nat) t v, Try.f5.params[j]? = some t → args[j]? = some v → Value.okWide Try.prog W .any base t v := hval0
  have hW' := hW
  obtain ⟨p, q, hA0, hV, rfl, _, _⟩ := hW
  have hA : DataW.TrodAll enc Try.prog W 0 (fun _ => true) true Try.f5.params.toList args.toList ds p := hA0
  rw [Try.params5] at hA hval
  obtain ⟨u0, u1, d0, d1, p0, p1, rfl, rfl, rfl, h0, h1⟩ := trodAll_two hA
  obtain ⟨rfl, rfl⟩ := trodVars_none hV
  clear hA0 hval0
  simp only [List.append_nil] at hW'
  have hlt : ∀ x ∈ p0 ++ p1, x.block < W.heap.size := fun x hx => by simpa using hW'.lt x hx
  have done : ∀ (e : Ending) (W' : World), e = .returned (.bool true) ∧ Gr W W' → ∃ v, e = .returned v ∧ Rows.fnExactResidualsOfSpec.post enc Try.prog Try.f5 false true false false W #[u0, u1] v W' := fun e W' ⟨he, hg⟩ => by
    subst he
    exact ⟨_, rfl, _, _, _, [], p0 ++ p1, [], hW', trodAll_mk1 (shut_bool Try.underlying4 _), trodAll_mk2 (Below.trod laidOutResidualsOf (by kernel_rfl) (of_decide_eq_true (by kernel_rfl)) h0 hg.below (fun x hx => hlt x (List.mem_append_left _ hx))) (Below.trod laidOutResidualsOf (by kernel_rfl) (of_decide_eq_true (by kernel_rfl)) h1 hg.below (fun x hx => hlt x (List.mem_append_right _ hx))), rfl, hg.below.frame _, fun h => by cases h⟩
  obtain ⟨n0, A0, m0, cap0, b0, p0, q0, rfl, hmax0, xs0, rfl, hraw0, hw0⟩ := open_table (hval 0 43 u0 rfl rfl) h0
  obtain ⟨A1, m1, cap1, rfl⟩ := okWide_slice Try.underlying34 (hval 1 34 u1 rfl rfl)
  obtain ⟨hmax1, xs1, rfl, hraw1⟩ := open_fracs h1
  by_cases hn : xs0.length ≤ 1048576
  · by_cases hm : xs0.length + xs1.length ≤ 1048576
    · obtain ⟨zs, C, hzs, hs, hi⟩ := bothResidualsOf n0 b0 p0 q0 xs0 xs1 (by omega) (by omega) hw0
      exact (lawResidualsOf n0 b0 p0 q0 A0 cap0 xs0 A1 cap1 xs1 zs C W hraw0 hraw1 (by omega) hzs hs hi).mono done
    · exact (lawResidualsOf_big2 n0 b0 p0 q0 A0 xs0.length cap0 A1 xs1.length cap1 W hn (by omega) hmax1).mono done
  · exact (lawResidualsOf_big n0 b0 p0 q0 A0 xs0.length cap0 A1 xs1.length cap1 W (by omega) hmax0).mono done

set_option maxHeartbeats 2000000 in
theorem closedResidualsOf : joinedFacts Try.pinned.checked.prog 5 Try.f5 Rows.fnExactResidualsOfSpec Rows.fnExactResidualsOfRow = true := by
  unfold joinedFacts
  refine Bool.and_eq_true_iff.2 ⟨?_, by as_aux_lemma => kernel_rfl⟩
  refine Bool.and_eq_true_iff.2 ⟨?_, by as_aux_lemma => kernel_rfl⟩
  refine Bool.and_eq_true_iff.2 ⟨?_, by as_aux_lemma => kernel_rfl⟩
  refine Bool.and_eq_true_iff.2 ⟨?_, by as_aux_lemma => kernel_rfl⟩
  refine Bool.and_eq_true_iff.2 ⟨?_, by rw [fact_make]; rfl⟩
  refine Bool.and_eq_true_iff.2 ⟨?_, by rw [fact_final]; rfl⟩
  refine Bool.and_eq_true_iff.2 ⟨?_, fact_enters⟩
  refine Bool.and_eq_true_iff.2 ⟨?_, by as_aux_lemma => kernel_rfl⟩
  refine Bool.and_eq_true_iff.2 ⟨?_, by as_aux_lemma => kernel_rfl⟩
  refine Bool.and_eq_true_iff.2 ⟨?_, by as_aux_lemma => kernel_rfl⟩
  refine Bool.and_eq_true_iff.2 ⟨?_, by as_aux_lemma => kernel_rfl⟩
  refine Bool.and_eq_true_iff.2 ⟨?_, by as_aux_lemma => kernel_rfl⟩
  refine Bool.and_eq_true_iff.2 ⟨?_, by as_aux_lemma => kernel_rfl⟩
  refine Bool.and_eq_true_iff.2 ⟨?_, by as_aux_lemma => kernel_rfl⟩
  refine Bool.and_eq_true_iff.2 ⟨?_, by as_aux_lemma => kernel_rfl⟩
  refine Bool.and_eq_true_iff.2 ⟨?_, by as_aux_lemma => kernel_rfl⟩
  refine Bool.and_eq_true_iff.2 ⟨?_, by as_aux_lemma => kernel_rfl⟩
  refine Bool.and_eq_true_iff.2 ⟨?_, by as_aux_lemma => kernel_rfl⟩
  refine Bool.and_eq_true_iff.2 ⟨?_, by as_aux_lemma => kernel_rfl⟩
  refine Bool.and_eq_true_iff.2 ⟨?_, by as_aux_lemma => kernel_rfl⟩
  refine Bool.and_eq_true_iff.2 ⟨?_, by as_aux_lemma => kernel_rfl⟩
  refine Bool.and_eq_true_iff.2 ⟨?_, by as_aux_lemma => kernel_rfl⟩
  refine Bool.and_eq_true_iff.2 ⟨?_, by as_aux_lemma => kernel_rfl⟩
  refine Bool.and_eq_true_iff.2 ⟨?_, by as_aux_lemma => kernel_rfl⟩
  refine Bool.and_eq_true_iff.2 ⟨?_, by as_aux_lemma => kernel_rfl⟩
  refine Bool.and_eq_true_iff.2 ⟨?_, by as_aux_lemma => kernel_rfl⟩
  refine Bool.and_eq_true_iff.2 ⟨?_, by as_aux_lemma => kernel_rfl⟩
  refine Bool.and_eq_true_iff.2 ⟨?_, by as_aux_lemma => kernel_rfl⟩
  refine Bool.and_eq_true_iff.2 ⟨?_, by as_aux_lemma => kernel_rfl⟩
  refine Bool.and_eq_true_iff.2 ⟨?_, by as_aux_lemma => kernel_rfl⟩
  as_aux_lemma => kernel_rfl
theorem residualsOf_holds : Rows.FnExactResidualsOfSaid :=
  OpenClaim.holds_of_wide 5 Try.f5 rfl rfl rfl rfl rfl rfl rfl ⟨rfl, rfl, rfl, rfl, rfl⟩ rfl rfl rfl rfl rfl (by as_aux_lemma => kernel_rfl) Try.func5 closedResidualsOf
    (of_decide_eq_true (by as_aux_lemma => kernel_rfl)) (by unfold Func.isWrapper; rw [if_neg (by decide +kernel)]; exact ⟨rfl, rfl⟩)
    (fun os started H enc _ => liftedResidualsOf os started H enc)
#print axioms residualsOf_holds
end Go.Proofs.Ytjhlpaeenjbljaa
