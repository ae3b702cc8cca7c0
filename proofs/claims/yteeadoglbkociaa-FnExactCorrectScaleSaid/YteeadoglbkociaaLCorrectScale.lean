/- The law FnExactCorrectScale of the laws package returns true for every scale and every slice of fractions, valid or not; they read behind the call as before it. No condition. -/
import Derived.Test.YteeadoglbkociaaRows
import Derived.Test.YteeadoglbkociaaCu
import Derived.Test.YteeadoglbkociaaRegL
import Derived.Test.YteeadoglbkociaaMk
import Derived.Test.YteeadoglbkociaaRs
import Derived.Test.YteeadoglbkociaaFacts
import Derived.ProofKit
import Derived.Carry
import Derived.Lib.SmallJoins
namespace Go.Proofs.Yteeadoglbkociaa
open Go.RowKit Go.Sort

set_option maxRecDepth 20000 in
set_option maxHeartbeats 8000000 in
theorem lawCorrectScale (a b : Int) (A B : Option Addr) (cap capB : Nat) (xs ys : List (Int × Int)) (u v : Int) (zs : List (Int × Int)) (C : Int) (w : World) (hr : RawF w (.slice A xs.length cap) xs) (hrB : RawF w (.slice B ys.length capB) ys) (hxy : xs.length + ys.length ≤ 1048576) (hzs : zs.length ≤ 1048576)
    (hs : ∀ (A B : Option Addr) (c d : Nat) (w : World), Hid (RdF w A xs) → Hid (RdF w B ys) → Calls Try.prog 48 #[scl a b A xs.length c, .slice B ys.length d] w fun e w' => GivesS w w' e u v zs C)
    (hi : ∀ (A B : Option Addr) (c d : Nat) (w : World), Hid (RdF w A xs) → Hid (RdF w B ys) → Calls Try.prog 50 #[scl a b A xs.length c, .slice B ys.length d] w fun e w' => GivesS w w' e u v zs C) :
    Calls Try.prog 9 #[scl a b A xs.length cap, .slice B ys.length capB] w fun x w' => x = .returned (.bool true) ∧ Gr w w' := by
  have HS := hid hs; have HI := hid hi; have HR := hid hr; have HRB := hid hrB
  have hn : xs.length ≤ 1048576 := by omega
  have hn2 : ys.length ≤ 1048576 := by omega
  have HSZ := hid fun (w : World) => (szF B ys.length capB (1048576 - (xs.length : Int)) w (by omega) (by omega) (by omega)).mono (R' := fun e w' => e = .returned (.int .i64 (1048576 - (xs.length : Int) - (ys.length : Int))) ∧ Gr w w') fun e w' h => ⟨by rw [h.1, if_pos (by omega)], h.2⟩
  clear hs hi hr hrB
  go_enter Try.func9, Try.ntmps9
  go_wp2_with fail
  refine (szSc_yes _ _ _ _ _ _ _ (by omega) (by omega)).mono ?_
  rintro e w1 ⟨rfl, hg1⟩
  obtain ⟨x1_0, hz1, g1⟩ := alloc1 hg1
  obtain ⟨_, _, _⟩ := cells3 x1_0
  have _ := fz x1_0
  have _ := ltb x1_0
  have X1_0 := hid x1_0; clear x1_0
  have G1 := hid (g1)
  clear hg1 g1
  go_wp2_with fail
  refine (HSZ.out _).mono ?_
  rintro e w2 ⟨rfl, hg2⟩
  have x2_1 := hg2.keep X1_0.out
  obtain ⟨_, _, _⟩ := cells3 x2_1
  have _ := fz x2_1
  have _ := ltb x2_1
  have X2_1 := hid x2_1; clear x2_1
  have G2 := hid (G1.out.trans hg2)
  clear hg2
  go_wp2_with fail
  refine (toSc_any _ _ _ _ xs _ hn (HR.out.keep G2.out)).mono ?_
  rintro e wa ⟨ga, rfl, xa, _, hga⟩
  have XA := hid xa; have GA := hid hga
  clear xa hga
  go_wp2_with fail
  refine (toFracS_any _ ys _ hn2 (HRB.out.keep (G2.out.trans GA.out))).mono ?_
  rintro e wb ⟨rfl, xb, hgb⟩
  have XB := hid xb; have XA2 := hid (hgb.keep XA.out); have GB := hid (GA.out.trans hgb)
  clear xb hgb XA
  go_wp2_with fail
  refine (HS.out _ _ _ _ _ (hid (RdF.of_block XA2.out)) (hid (RdF.of_block XB.out))).mono ?_
  rintro e wc ⟨A3, c3, rfl, oc, hgc⟩
  have BC := hid (hgc.keep (GB.out.keep X2_1.out))
  have o3 := own_base (own_gr oc ((Gr.refl wc).al (.cells #[.int .i64 u, .int .i64 v, .slice A3 zs.length c3] 76))) GB.out.size
  have v3 := (alloc1 (w := wc) (A := (.cells #[.int .i64 u, .int .i64 v, .slice A3 zs.length c3] 76)) (Gr.refl _)).1
  have hg3 := (GB.out.trans hgc).trans ((Gr.refl wc).al (.cells #[.int .i64 u, .int .i64 v, .slice A3 zs.length c3] 76))
  clear oc hgc XA2 XB GA GB
  have L3 := hid (own_lt o3); have O3 := hid o3; have V3 := hid v3; have G3 := hid (G2.out.trans hg3); have B3 := hid (hg3.keep X2_1.out)
  have Z3 := hid (ltb v3); have HW3 := hid hg3.size; have HB2 := hid (ltb X2_1.out)
  clear hg3 o3 v3
  obtain ⟨_, _, _⟩ := cells3 BC.out
  have _ := ltb BC.out
  go_wp2_with fail
  refine (toSc_any _ _ _ _ xs _ hn (HR.out.keep G3.out)).mono ?_
  rintro e w4 ⟨g4, rfl, x4, b4, hg4⟩
  have X4 := hid x4; have Z4 := hid (ltb x4); have H4 := hid b4; have H34 := hid hg4.size
  clear x4 b4
  have V4 := hid (hg4.keep V3.out); have B4 := hid (hg4.keep B3.out); have O4 := hid (own_gr O3.out hg4); have G4 := hid (G3.out.trans hg4)
  clear hg4 V3 B3 O3
  go_wp2_with fail
  have alg : (w4.alloc (.cells #[.int .i64 a, .int .i64 b, .slice (some ⟨g4, 0, none⟩) xs.length xs.length] 76)).heap.size = w4.heap.size + 1 := by simp
  refine (toFracS_any _ ys _ hn2 (HRB.out.keep (G4.out.al _))).mono ?_
  rintro e w5 ⟨he, x5, hg5⟩
  rw [alg] at he x5
  subst he
  have hal := ((Gr.refl w4).al (.cells #[.int .i64 a, .int .i64 b, .slice (some ⟨g4, 0, none⟩) xs.length xs.length] 76)).trans hg5
  have Y5 := hid x5; have ZY := hid (ltb x5); have H45 := hid hal.size
  have K5 := hid (hg5.keep (alloc1 (w := w4) (A := (.cells #[.int .i64 a, .int .i64 b, .slice (some ⟨g4, 0, none⟩) xs.length xs.length] 76)) (Gr.refl _)).1)
  clear x5 hg5 alg
  have X5 := hid (hal.keep X4.out); have V5 := hid (hal.keep V4.out); have B5 := hid (hal.keep B4.out); have O5 := hid (own_gr O4.out hal); have G5 := hid (G4.out.trans hal)
  clear hal X4 V4 B4 O4
  obtain ⟨_, _, _⟩ := cells3 K5.out
  go_wp2_with fail
  refine (HI.out _ _ _ _ _ (hid (RdF.of_block X5.out)) (hid (RdF.of_block Y5.out))).mono ?_
  rintro e w6 ⟨Ag, cg, rfl, o6, hg6⟩
  have V6a := hid (hg6.keep V5.out)
  have H56 := hid hg6.size
  have LG := hid (own_lt o6)
  have OG6 := hid (own_gr o6 ((Gr.refl w6).al (.cells #[.int .i64 u, .int .i64 v, .slice Ag zs.length cg] 76)))
  have P6 := hid (alloc1 (w := w6) (A := (.cells #[.int .i64 u, .int .i64 v, .slice Ag zs.length cg] 76)) (Gr.refl _)).1
  have hal := hg6.trans ((Gr.refl w6).al (.cells #[.int .i64 u, .int .i64 v, .slice Ag zs.length cg] 76))
  clear o6 hg6
  have X6 := hid (hal.keep X5.out); have Y6 := hid (hal.keep Y5.out); have V6 := hid (hal.keep V5.out); have B6 := hid (hal.keep B5.out); have K6 := hid (hal.keep K5.out); have O6 := hid (own_gr O5.out hal); have G6 := hid (G5.out.trans hal)
  clear hal X5 Y5 V5 B5 K5 O5
  obtain ⟨_, _, _⟩ := cells3 V6a.out
  have _ := ltb V6a.out
  go_wp2_with fail
  refine (eqSc_any _ _ _ _ _ _ zs _ (hid (RdF.of_ownF OG6.out)) (hid (RdF.of_ownF O6.out)) hzs).mono ?_
  rintro e w7 ⟨rfl, hg7⟩
  have X7 := hid (hg7.keep X6.out); have Y7 := hid (hg7.keep Y6.out); have V7 := hid (hg7.keep V6.out); have B7 := hid (hg7.keep B6.out); have K7 := hid (hg7.keep K6.out); have P7 := hid (hg7.keep P6.out); have O7 := hid (own_gr O6.out hg7); have OG7 := hid (own_gr OG6.out hg7); have G7 := hid (G6.out.trans hg7)
  clear hg7 X6 Y6 V6 B6 K6 P6 O6 OG6
  clear V6a
  go_wp2_with fail
  refine wp_regG1 4 2 56 [3] [2, 3] [0, 1, 2] (fun g => scl a b (some ⟨g, 0, none⟩) xs.length xs.length) (.cells (flatA xs) 25) (by kernel_rfl) (by kernel_rfl) (by kernel_rfl) rfl rfl ?_
  apply Exists.intro; apply Exists.intro
  refine ⟨fun wb hb => ?_, ?_, fun g wb hb xg => ?_, fun g8 w8 hg8 _ _ => ?_⟩
  · obtain ⟨_, _, _⟩ := hb.at3 B7.out
    obtain ⟨_, _, _⟩ := hb.at3 K7.out
    simp only [headOps, List.contains, List.elem, Nat.reduceAdd, Nat.reduceBEq, reduceIte, Bool.false_eq_true, dumOp]
    repeat (first | go_big_quiet_step (first | (fail)) | quiet_step (fail))
    exact wpQuiet_nil rfl
  · intro o ho wb hb
    cases ho
    exact ⟨_, _, by kernel_rfl, toSc_any a b A cap xs wb hn (HR.out.keep (G7.out.trans hb))⟩
  · obtain ⟨_, _, _⟩ := hb.at3 B7.out
    obtain ⟨_, _, _⟩ := hb.at3 K7.out
    simp only [headOps, List.contains, List.elem, Nat.reduceAdd, Nat.reduceBEq, reduceIte, Bool.false_eq_true, dumOp]
    repeat (first | go_big_quiet_step (first | (go_at_call 51; exact Calls.of_gr (eqSc_any _ _ _ _ _ _ xs _ (hid ((RdF.of_block X7.out).keep (hb.trans ⟨⟨_, _⟩, rfl⟩))) (hid ((RdF.of_block xg).keep ⟨⟨_, _⟩, rfl⟩)) hn))) | quiet_step (fail))
    exact wpQuiet_nil rfl
  have X8 := hid (hg8.keep X7.out); have Y8 := hid (hg8.keep Y7.out); have V8 := hid (hg8.keep V7.out); have B8 := hid (hg8.keep B7.out); have K8 := hid (hg8.keep K7.out); have P8 := hid (hg8.keep P7.out); have O8 := hid (own_gr O7.out hg8); have OG8 := hid (own_gr OG7.out hg8); have G8 := hid (G7.out.trans hg8)
  clear hg8 X7 Y7 V7 B7 K7 P7 O7 OG7
  simp only [List.drop_succ_cons, List.drop_zero]
  go_wp2_with fail
  refine (toFracS_any _ ys _ hn2 (HRB.out.keep G8.out)).mono ?_
  rintro e w9 ⟨rfl, x9, hg9⟩
  have YN := hid x9
  clear x9
  have X9 := hid (hg9.keep X8.out); have Y9 := hid (hg9.keep Y8.out); have V9 := hid (hg9.keep V8.out); have B9 := hid (hg9.keep B8.out); have K9 := hid (hg9.keep K8.out); have P9 := hid (hg9.keep P8.out); have O9 := hid (own_gr O8.out hg9); have OG9 := hid (own_gr OG8.out hg9); have G9 := hid (G8.out.trans hg9)
  clear hg9 X8 Y8 V8 B8 K8 P8 O8 OG8
  go_wp2_with fail
  refine (eqF_any _ _ _ _ ys _ (hid (RdF.of_block Y9.out)) (hid (RdF.of_block YN.out)) hn2).mono ?_
  rintro e w10 ⟨rfl, hg10⟩
  have X10 := hid (hg10.keep X9.out); have Y10 := hid (hg10.keep Y9.out); have V10 := hid (hg10.keep V9.out); have B10 := hid (hg10.keep B9.out); have K10 := hid (hg10.keep K9.out); have P10 := hid (hg10.keep P9.out); have O10 := hid (own_gr O9.out hg10); have OG10 := hid (own_gr OG9.out hg10); have G10 := hid (G9.out.trans hg10)
  clear hg10 X9 Y9 V9 B9 K9 P9 O9 OG9
  clear YN
  obtain ⟨_, _, _⟩ := cells3 K10.out
  go_wp2_with fail
  refine (markSc_any a b g4 xs.length xs.length 1 (flatA xs) _ _ X10 (by unfold flatA; simp [flatL_len]) hn (by omega) (by omega)).mono ?_
  rintro e w11 ⟨rfl, _, on11⟩
  have OG11 := hid (own_only OG10.out on11 (fun ad he => Nat.ne_of_gt (Nat.lt_of_lt_of_le Z4.out (Nat.le_trans H45.out (LG.out ad he).1))))
  have R11 := hid ((RdF.of_ownF O10.out).only on11 (fun ad he => Nat.ne_of_lt (Nat.lt_of_lt_of_le (L3.out ad he).2 H4.out)))
  have V11 := hid (on11.1 _ _ (Nat.ne_of_lt (Nat.lt_of_lt_of_le Z3.out H4.out)) V10.out)
  have P11 := hid (on11.1 _ _ (Nat.ne_of_gt (Nat.lt_of_lt_of_le Z4.out (Nat.le_trans H45.out H56.out))) P10.out)
  have Y11 := hid (on11.1 _ _ (Nat.ne_of_gt (Nat.lt_succ_of_lt Z4.out)) Y10.out)
  have B11 := hid (on11.1 _ _ (Nat.ne_of_lt (Nat.lt_of_lt_of_le HB2.out (Nat.le_trans HW3.out H4.out))) B10.out)
  have G11 := hid (on11.2 w G10.out (Nat.le_trans G3.out.size H4.out))
  clear on11 OG10 O10 X10 Y10 V10 P10 B10 K10
  go_wp2_with fail
  refine (markF_any _ _ _ _ (flatA ys) _ _ Y11 (by unfold flatA; simp [flatL_len]) hn2 (by omega) (by omega)).mono ?_
  rintro e w12 ⟨rfl, _, on12⟩
  have HWY := hid (Nat.le_succ_of_le H34.out)
  have OG12 := hid (own_only OG11.out on12 (fun ad he => Nat.ne_of_gt (Nat.lt_of_lt_of_le ZY.out (LG.out ad he).1)))
  have R12 := hid (R11.out.only on12 (fun ad he => Nat.ne_of_lt (Nat.lt_of_lt_of_le (L3.out ad he).2 HWY.out)))
  have V12 := hid (on12.1 _ _ (Nat.ne_of_lt (Nat.lt_of_lt_of_le Z3.out HWY.out)) V11.out)
  have P12 := hid (on12.1 _ _ (Nat.ne_of_gt (Nat.lt_of_lt_of_le ZY.out H56.out)) P11.out)
  have B12 := hid (on12.1 _ _ (Nat.ne_of_lt (Nat.lt_of_lt_of_le HB2.out (Nat.le_trans HW3.out HWY.out))) B11.out)
  have G12 := hid (on12.2 w G11.out (Nat.le_trans G3.out.size HWY.out))
  clear on12 OG11 R11 Y11 V11 P11 B11
  obtain ⟨_, _, _⟩ := cells3 V12.out
  obtain ⟨_, _, _⟩ := cells3 P12.out
  go_wp2_with fail
  refine (eqSc_any _ _ _ _ _ _ zs _ (hid (RdF.of_ownF OG12.out)) R12 hzs).mono ?_
  rintro e w13 ⟨rfl, hg13⟩
  have V13 := hid (hg13.keep V12.out); have B13 := hid (hg13.keep B12.out); have P13 := hid (hg13.keep P12.out); have OG13 := hid (own_gr OG12.out hg13); have R13 := hid (R12.out.keep hg13); have G13 := hid (G12.out.trans hg13)
  clear hg13 V12 B12 P12 OG12 R12
  obtain ⟨_, _, _⟩ := cells3 P13.out
  go_wp2_with fail
  refine (markOwnSc2 _ _ _ _ _ _ _ 1 _ OG13 hzs (by omega) (by omega)).mono ?_
  rintro e w14 ⟨rfl, ⟨gg, hgg, on14⟩, m14, ot14⟩
  have M14 := hid m14
  have H35 := hid (Nat.le_trans H34.out (Nat.le_trans H45.out hgg))
  have R14 := hid (R13.out.only on14 (fun ad he => Nat.ne_of_lt (Nat.lt_of_lt_of_le (L3.out ad he).2 H35.out)))
  have V14 := hid (ot14 _ _ _ (by decide) V13.out)
  have P14 := hid (ot14 _ _ _ (by decide) P13.out)
  have B14 := hid (ot14 _ _ _ (by decide) B13.out)
  have G14 := hid (on14.2 w G13.out (Nat.le_trans G3.out.size H35.out))
  clear on14 m14 ot14 OG13 R13 V13 P13 B13
  obtain ⟨_, _, _⟩ := cells3 P14.out
  go_wp2_with fail
  refine (heldSc_any _ _ _ _ _ _ _ M14 hzs (by omega) (by omega)).mono ?_
  rintro e w15 ⟨rfl, hg15⟩
  have V15 := hid (hg15.keep V14.out); have B15 := hid (hg15.keep B14.out); have P15 := hid (hg15.keep P14.out); have M15 := hid (M14.out.keep hg15); have R15 := hid (R14.out.keep hg15); have G15 := hid (G14.out.trans hg15)
  clear hg15 V14 B14 P14 M14 R14
  obtain ⟨_, _, _⟩ := cells3 B15.out
  go_wp2_with fail
  refine (toSc_any _ _ _ _ xs _ hn (HR.out.keep G15.out)).mono ?_
  rintro e wd ⟨gd, rfl, xd, _, hgd⟩
  have XD := hid xd; have GD := hid hgd
  clear xd hgd
  go_wp2_with fail
  refine (toFracS_any _ ys _ hn2 (HRB.out.keep (G15.out.trans GD.out))).mono ?_
  rintro e we ⟨rfl, xe, hge⟩
  have XE := hid xe; have XD2 := hid (hge.keep XD.out); have GE := hid (GD.out.trans hge)
  clear xe hge XD
  go_wp2_with fail
  refine (HI.out _ _ _ _ _ (hid (RdF.of_block XD2.out)) (hid (RdF.of_block XE.out))).mono ?_
  rintro e wf ⟨Ah, ch, rfl, oh, hgf⟩
  have VF := hid (hgf.keep (GE.out.keep V15.out))
  have RH := hid (RdF.of_ownF (own_gr oh ((Gr.refl wf).al (.cells #[.int .i64 u, .int .i64 v, .slice Ah zs.length ch] 76))))
  have hg16 := (GE.out.trans hgf).trans ((Gr.refl wf).al (.cells #[.int .i64 u, .int .i64 v, .slice Ah zs.length ch] 76))
  clear oh hgf XD2 XE GD GE
  have V16 := hid (hg16.keep V15.out); have P16 := hid (hg16.keep P15.out); have M16 := hid (M15.out.keep hg16); have R16 := hid (R15.out.keep hg16); have G16 := hid (G15.out.trans hg16)
  clear hg16 V15 P15 M15 R15
  obtain ⟨_, _, _⟩ := cells3 VF.out
  have _ := ltb VF.out
  go_wp2_with fail
  refine (eqSc_any _ _ _ _ _ _ zs _ RH R16 hzs).mono ?_
  rintro e w17 ⟨rfl, hg17⟩
  have P17 := hid (hg17.keep P16.out); have M17 := hid (M16.out.keep hg17); have G17 := hid (G16.out.trans hg17)
  clear hg17 P16 M16
  clear RH R16
  obtain ⟨_, _, _⟩ := cells3 P17.out
  go_wp2_with fail
  refine (heldSc_any _ _ _ _ _ _ _ M17 hzs (by omega) (by omega)).mono ?_
  rintro e w18 ⟨rfl, hg18⟩
  have G18 := hid (G17.out.trans hg18)
  clear hg18 M17
  go_wp2_with fail
  go_ret
  exact ⟨rfl, G18.out⟩
set_option maxRecDepth 20000 in
set_option maxHeartbeats 400000 in
theorem lawCorrectScale_big (a b : Int) (A B : Option Addr) (n cap m capB : Nat) (w : World) (h : 1048576 < n) (h2 : n ≤ 9223372036854775807) :
    Calls Try.prog 9 #[scl a b A n cap, .slice B m capB] w fun e w' => e = .returned (.bool true) ∧ Gr w w' := by
  go_enter Try.func9, Try.ntmps9
  go_wp2_with fail
  refine (szSc_no _ _ _ _ _ _ _ (by omega) h2 (by omega) (by omega)).mono ?_
  rintro e w1 ⟨rfl, hg1⟩
  obtain ⟨x1_0, hz1, g1⟩ := alloc1 hg1
  obtain ⟨_, _, _⟩ := cells3 x1_0
  have _ := fz x1_0
  have _ := ltb x1_0
  have X1_0 := hid x1_0; clear x1_0
  have G1 := hid (g1)
  clear hg1 g1
  go_wp2
  go_ret
  exact ⟨rfl, G1.out⟩
set_option maxRecDepth 20000 in
set_option maxHeartbeats 400000 in
theorem lawCorrectScale_big2 (a b : Int) (A B : Option Addr) (n cap m capB : Nat) (w : World) (h0 : n ≤ 1048576) (h : 1048576 < n + m) (h2 : m ≤ 9223372036854775807) :
    Calls Try.prog 9 #[scl a b A n cap, .slice B m capB] w fun e w' => e = .returned (.bool true) ∧ Gr w w' := by
  have HSZ := hid fun (w : World) => (szF B m capB (1048576 - (n : Int)) w h2 (by omega) (by omega)).mono (R' := fun e w' => e = .returned (.int .i64 (-1)) ∧ Gr w w') fun e w' h => ⟨by rw [h.1, if_neg (by omega)], h.2⟩
  go_enter Try.func9, Try.ntmps9
  go_wp2_with fail
  refine (szSc_yes _ _ _ _ _ _ _ (by omega) (by omega)).mono ?_
  rintro e w1 ⟨rfl, hg1⟩
  obtain ⟨x1_0, hz1, g1⟩ := alloc1 hg1
  obtain ⟨_, _, _⟩ := cells3 x1_0
  have _ := fz x1_0
  have _ := ltb x1_0
  have X1_0 := hid x1_0; clear x1_0
  have G1 := hid (g1)
  clear hg1 g1
  go_wp2_with fail
  refine (HSZ.out _).mono ?_
  rintro e w2 ⟨rfl, hg2⟩
  have x2_1 := hg2.keep X1_0.out
  obtain ⟨_, _, _⟩ := cells3 x2_1
  have _ := fz x2_1
  have _ := ltb x2_1
  have X2_1 := hid x2_1; clear x2_1
  have G2 := hid (G1.out.trans hg2)
  clear hg2
  go_wp2
  go_ret
  exact ⟨rfl, G2.out⟩
open Go.ChangeShapes Go.WideShapes Go.ChangeAt Go.Joins
theorem laidOutCorrectScale : laidOutB Try.prog = true := by as_aux_lemma => kernel_rfl
set_option maxRecDepth 100000 in
theorem liftedCorrectScale (os : Os) (started : os.Started) (H : Type) (enc : TypeId × Value → H) :
    ReturnsInHanded {} Try.checked os 9 .any (Rows.fnExactCorrectScaleSpec.pre6 enc Try.prog Try.f9 Rows.fnExactCorrectScaleRow.domain false) (Rows.fnExactCorrectScaleSpec.post enc Try.prog Try.f9 false true false false) := by
  refine returnsInHanded_of_change (C := Try.checked) ownNone started (by kernel_rfl) Try.func9
    (ChangeSpec.witness6 (enc := enc) (C := Try.checked) false ⟨#[], #[.agg #[.int .i64 0, .int .i64 0, .slice none 0 0], .slice none 0 0], []⟩ 8 (by kernel_rfl) (by kernel_rfl) (by kernel_rfl) (by kernel_rfl)) ?_
  intro W base args ds gs before hval0 hW _ _
  have hval : ∀ (j : Nat) t v, Try.f9.params[j]? = some t → args[j]? = some v → Value.okWide Try.prog W .any base t v := hval0
  have hW' := hW
  obtain ⟨p, q, hA0, hV, rfl, _, _⟩ := hW
  have hA : DataW.TrodAll enc Try.prog W 0 (fun _ => true) true Try.f9.params.toList args.toList ds p := hA0
  rw [Try.params9] at hA hval
  obtain ⟨u0, u1, d0, d1, p0, p1, rfl, rfl, rfl, h0, h1⟩ := trodAll_two hA
  obtain ⟨rfl, rfl⟩ := trodVars_none hV
  clear hA0 hval0
  simp only [List.append_nil] at hW'
  have hlt : ∀ x ∈ p0 ++ p1, x.block < W.heap.size := fun x hx => by simpa using hW'.lt x hx
  have done : ∀ (e : Ending) (W' : World), e = .returned (.bool true) ∧ Gr W W' → ∃ v, e = .returned v ∧ Rows.fnExactCorrectScaleSpec.post enc Try.prog Try.f9 false true false false W #[u0, u1] v W' := fun e W' ⟨he, hg⟩ => by
    subst he
    exact ⟨_, rfl, _, _, _, [], p0 ++ p1, [], hW', trodAll_mk1 (shut_bool Try.underlying4 _), trodAll_mk2 (Below.trod laidOutCorrectScale (by kernel_rfl) (of_decide_eq_true (by kernel_rfl)) h0 hg.below (fun x hx => hlt x (List.mem_append_left _ hx))) (Below.trod laidOutCorrectScale (by kernel_rfl) (of_decide_eq_true (by kernel_rfl)) h1 hg.below (fun x hx => hlt x (List.mem_append_right _ hx))), rfl, hg.below.frame _, fun h => by cases h⟩
  obtain ⟨a, b, A, n, cap, rfl, hmax, xs, rfl, hraw⟩ := open_scale (hval 0 73 u0 rfl rfl) h0
  obtain ⟨B, m, capB, rfl⟩ := okWide_slice Try.underlying41 (hval 1 41 u1 rfl rfl)
  obtain ⟨hmaxB, ys, rfl, hrawB⟩ := open_fracs h1
  by_cases hn : xs.length ≤ 1048576
  · by_cases hm : xs.length + ys.length ≤ 1048576
    · obtain ⟨u, v, zs, C, hzs, hs, hi⟩ := bothCorrectScale a b xs ys hn (by omega)
      exact (lawCorrectScale a b A B cap capB xs ys u v zs C W hraw hrawB hm hzs hs hi).mono done
    · exact (lawCorrectScale_big2 a b A B xs.length cap ys.length capB W hn (by omega) hmaxB).mono done
  · exact (lawCorrectScale_big a b A B xs.length cap ys.length capB W (by omega) hmax).mono done

set_option maxHeartbeats 2000000 in
theorem closedCorrectScale : joinedFacts Try.pinned.checked.prog 9 Try.f9 Rows.fnExactCorrectScaleSpec Rows.fnExactCorrectScaleRow = true := by
  unfold joinedFacts
  refine Bool.and_eq_true_iff.2 ⟨?_, by as_aux_lemma => kernel_rfl⟩
  refine Bool.and_eq_true_iff.2 ⟨?_, by as_aux_lemma => kernel_rfl⟩
  refine Bool.and_eq_true_iff.2 ⟨?_, by as_aux_lemma => kernel_rfl⟩
  refine Bool.and_eq_true_iff.2 ⟨?_, by as_aux_lemma => kernel_rfl⟩
  refine Bool.and_eq_true_iff.2 ⟨?_, by rw [fact_make]; rfl⟩
  refine Bool.and_eq_true_iff.2 ⟨?_, by rw [fact_final]; rfl⟩
  refine Bool.and_eq_true_iff.2 ⟨?_, fact_enters⟩
  refine Bool.and_eq_true_iff.2 ⟨?_, by as_aux_lemma => kernel_rfl⟩
  refine Bool.and_eq_true_iff.2 ⟨?_, by as_aux_lemma => kernel_rfl⟩
  refine Bool.and_eq_true_iff.2 ⟨?_, by as_aux_lemma => kernel_rfl⟩
  refine Bool.and_eq_true_iff.2 ⟨?_, by as_aux_lemma => kernel_rfl⟩
  refine Bool.and_eq_true_iff.2 ⟨?_, by as_aux_lemma => kernel_rfl⟩
  refine Bool.and_eq_true_iff.2 ⟨?_, by as_aux_lemma => kernel_rfl⟩
  refine Bool.and_eq_true_iff.2 ⟨?_, by as_aux_lemma => kernel_rfl⟩
  refine Bool.and_eq_true_iff.2 ⟨?_, by as_aux_lemma => kernel_rfl⟩
  refine Bool.and_eq_true_iff.2 ⟨?_, by as_aux_lemma => kernel_rfl⟩
  refine Bool.and_eq_true_iff.2 ⟨?_, by as_aux_lemma => kernel_rfl⟩
  refine Bool.and_eq_true_iff.2 ⟨?_, by as_aux_lemma => kernel_rfl⟩
  refine Bool.and_eq_true_iff.2 ⟨?_, by as_aux_lemma => kernel_rfl⟩
  refine Bool.and_eq_true_iff.2 ⟨?_, by as_aux_lemma => kernel_rfl⟩
  refine Bool.and_eq_true_iff.2 ⟨?_, by as_aux_lemma => kernel_rfl⟩
  refine Bool.and_eq_true_iff.2 ⟨?_, by as_aux_lemma => kernel_rfl⟩
  refine Bool.and_eq_true_iff.2 ⟨?_, by as_aux_lemma => kernel_rfl⟩
  refine Bool.and_eq_true_iff.2 ⟨?_, by as_aux_lemma => kernel_rfl⟩
  refine Bool.and_eq_true_iff.2 ⟨?_, by as_aux_lemma => kernel_rfl⟩
  refine Bool.and_eq_true_iff.2 ⟨?_, by as_aux_lemma => kernel_rfl⟩
  refine Bool.and_eq_true_iff.2 ⟨?_, by as_aux_lemma => kernel_rfl⟩
  refine Bool.and_eq_true_iff.2 ⟨?_, by as_aux_lemma => kernel_rfl⟩
  refine Bool.and_eq_true_iff.2 ⟨?_, by as_aux_lemma => kernel_rfl⟩
  refine Bool.and_eq_true_iff.2 ⟨?_, by as_aux_lemma => kernel_rfl⟩
  as_aux_lemma => kernel_rfl
theorem correctScale_holds : Rows.FnExactCorrectScaleSaid :=
  OpenClaim.holds_of_wide 9 Try.f9 rfl rfl rfl rfl rfl rfl rfl ⟨rfl, rfl, rfl, rfl, rfl⟩ rfl rfl rfl rfl rfl (by as_aux_lemma => kernel_rfl) Try.func9 closedCorrectScale
    (of_decide_eq_true (by as_aux_lemma => kernel_rfl)) (by unfold Func.isWrapper; rw [if_neg (by decide +kernel)]; exact ⟨rfl, rfl⟩)
    (fun os started H enc _ => liftedCorrectScale os started H enc)
#print axioms correctScale_holds
end Go.Proofs.Yteeadoglbkociaa
