/- The law FnExactCorrectBench of the laws package returns true for every bench and every slice of fractions, valid or not; they read behind the call as before it. No condition. -/
import Derived.Test.YtfpcbgfcachlgaaRows
import Derived.Test.YtfpcbgfcachlgaaBp
import Derived.Test.YtfpcbgfcachlgaaMu
import Derived.Test.YtfpcbgfcachlgaaBh
import Derived.Test.YtfpcbgfcachlgaaRegL
import Derived.Test.YtfpcbgfcachlgaaMk
import Derived.Test.YtfpcbgfcachlgaaRd
import Derived.Test.YtfpcbgfcachlgaaFacts
import Derived.ProofKit
import Derived.Carry
import Derived.Deep.CutRange
import Derived.Deep.RegionWith
import Derived.Lib.SmallJoins
namespace Go.Proofs.Ytfpcbgfcachlgaa
open Go.RowKit Go.Sort

set_option maxRecDepth 20000 in
set_option maxHeartbeats 8000000 in
theorem lawCorrectBench (a b : Int) (A B E : Option Addr) (cap capB capE : Nat) (xs : List (Int × Int)) (N : Int) (kb : Bool) (u v : Int) (ts : List Tgv) (ys : List (Int × Int)) (p q : Int) (zs : List (Int × Int)) (N' : Int) (kb' : Bool) (u' v' : Int) (ss : List Tgv) (C qz : Int) (w : World) (hr : RawF w (.slice A xs.length cap) xs) (hrT : RawTg w (.slice B ts.length capB) ts) (hrE : RawF w (.slice E ys.length capE) ys) (hn : xs.length ≤ 1048576) (hm : ts.length ≤ 1048576) (hy : ys.length ≤ 1048576) (hz : ∀ x ∈ ts, x.nm.size ≤ 9223372036854775807) (hzs : zs.length ≤ 1048576) (hss : ss.length ≤ 1048576) (hq : szToB xs ts 1048576 = qz) (hq0 : 0 ≤ qz) (hq1 : qz ≤ 1048576) (hyq : (ys.length : Int) ≤ qz)
    (hs : ∀ (A E : Option Addr) (c g d e : Nat) (w : World), Hid (RdF w A xs) → Hid (RdTg w (some ⟨g, 0, none⟩) ts) → Hid (RdF w E ys) → Calls Try.prog 12 #[bnc a b A xs.length c N kb u v (some ⟨g, 0, none⟩) ts.length d, .slice E ys.length e] w fun x w' => GivesB w w' x p q zs N' kb' u' v' ss C)
    (hi : ∀ (A E : Option Addr) (c g d e : Nat) (w : World), Hid (RdF w A xs) → Hid (RdTg w (some ⟨g, 0, none⟩) ts) → Hid (RdF w E ys) → Calls Try.prog 15 #[bnc a b A xs.length c N kb u v (some ⟨g, 0, none⟩) ts.length d, .slice E ys.length e] w fun x w' => GivesB w w' x p q zs N' kb' u' v' ss C) :
    Calls Try.prog 3 #[bnc a b A xs.length cap N kb u v B ts.length capB, .slice E ys.length capE] w fun x w' => x = .returned (.bool true) ∧ Gr w w' := by
  have HS := hid hs; have HI := hid hi; have HR := hid hr; have HT := hid hrT; have HRE := hid hrE; have HZ := hid hz; have HQ := hid hq
  have HSZ := hid fun (w : World) => (szF E ys.length capE qz w (by omega) hq0 hq1).mono (R' := fun e w' => e = .returned (.int .i64 (qz - (ys.length : Int))) ∧ Gr w w') fun e w' h => ⟨by rw [h.1, if_pos hyq], h.2⟩
  clear hs hi hr hrT hrE hz hq
  go_enter Try.func3, Try.ntmps3
  go_wp2_with fail
  refine (szBn_is _ _ _ _ xs _ _ _ _ _ _ ts _ _ _ (HT.out.keep ((Gr.refl w).al _)) (by omega) (by omega) HZ.out (by omega) (by omega) HQ.out).mono ?_
  rintro e w1 ⟨rfl, hg1⟩
  obtain ⟨x1_0, hz1, g1⟩ := alloc1 hg1
  obtain ⟨_, _, _, _, _, _, _, _⟩ := cells8 x1_0
  have _ := fz x1_0
  have _ := ltb x1_0
  have X1_0 := hid x1_0; clear x1_0
  have G1 := hid (g1)
  clear hg1 g1
  go_wp2_with fail
  refine (HSZ.out _).mono ?_
  rintro e w2 ⟨rfl, hg2⟩
  have x2_1 := hg2.keep X1_0.out
  obtain ⟨_, _, _, _, _, _, _, _⟩ := cells8 x2_1
  have _ := fz x2_1
  have _ := ltb x2_1
  have X2_1 := hid x2_1; clear x2_1
  have G2 := hid (G1.out.trans hg2)
  clear hg2
  go_wp2_with fail
  refine (toBn_any _ _ _ _ xs _ _ _ _ _ _ ts _ hn hm (HR.out.keep G2.out) (HT.out.keep G2.out)).mono ?_
  rintro e wa ⟨ga, gb, rfl, ⟨xa, ta, _⟩, _, hga⟩
  have XA := hid xa; have TA := hid ta; have GA := hid hga
  clear xa ta hga
  go_wp2_with fail
  refine (toFracS_any _ ys _ hy (HRE.out.keep (G2.out.trans GA.out))).mono ?_
  rintro e wb ⟨rfl, xb, hgb⟩
  have XB := hid xb; have XA2 := hid (hgb.keep XA.out); have TA2 := hid (hgb.keep TA.out); have GB := hid (GA.out.trans hgb)
  clear xb hgb XA TA
  go_wp2_with fail
  refine (HS.out _ _ _ _ _ _ _ (hid (RdF.of_block XA2.out)) (hid (RdTg.of_block TA2.out)) (hid (RdF.of_block XB.out))).mono ?_
  rintro e wq ⟨A3, c3, D3, d3, rfl, oc, pc, hgc⟩
  have BC := hid (hgc.keep (GB.out.keep X2_1.out))
  have o3 := own_base (own_gr oc ((Gr.refl wq).al (.cells (bncA p q A3 zs.length c3 N' kb' u' v' D3 ss.length d3) 41))) GB.out.size
  have p3 := own_base (own_gr pc ((Gr.refl wq).al (.cells (bncA p q A3 zs.length c3 N' kb' u' v' D3 ss.length d3) 41))) GB.out.size
  have v3 := (alloc1 (w := wq) (A := (.cells (bncA p q A3 zs.length c3 N' kb' u' v' D3 ss.length d3) 41)) (Gr.refl _)).1
  have hg3 := (GB.out.trans hgc).trans ((Gr.refl wq).al (.cells (bncA p q A3 zs.length c3 N' kb' u' v' D3 ss.length d3) 41))
  clear oc pc hgc XA2 TA2 XB GA GB
  have L3 := hid (own_lt o3); have M3 := hid (own_lt p3); have O3 := hid o3; have Q3 := hid p3; have V3 := hid v3; have G3 := hid (G2.out.trans hg3); have B3 := hid (hg3.keep X2_1.out)
  have Z3 := hid (ltb v3); have HW3 := hid hg3.size; have HB2 := hid (ltb X2_1.out)
  clear hg3 o3 p3 v3
  obtain ⟨_, _, _, _, _, _, _, _⟩ := cells8 BC.out
  have _ := ltb BC.out
  go_wp2_with fail
  refine (toBn_any _ _ _ _ xs _ _ _ _ _ _ ts _ hn hm (HR.out.keep G3.out) (HT.out.keep G3.out)).mono ?_
  rintro e w4 ⟨g4, h4, rfl, ⟨x4, t4, lt4⟩, b4, hg4⟩
  have X4 := hid x4; have T4 := hid t4; have Z4 := hid (ltb x4); have ZH := hid (ltb t4); have H4 := hid b4; have K4 := hid (Nat.le_trans b4 (Nat.le_of_lt lt4)); have NE4 := hid (Nat.ne_of_lt lt4); have H34 := hid hg4.size
  clear x4 t4 b4 lt4
  have V4 := hid (hg4.keep V3.out); have B4 := hid (hg4.keep B3.out); have O4 := hid (own_gr O3.out hg4); have Q4 := hid (own_gr Q3.out hg4); have G4 := hid (G3.out.trans hg4)
  clear hg4 V3 B3 O3 Q3
  go_wp2_with fail
  have alg : (w4.alloc (.cells (bncA a b (some ⟨g4, 0, none⟩) xs.length xs.length N kb u v (some ⟨h4, 0, none⟩) ts.length ts.length) 41)).heap.size = w4.heap.size + 1 := by simp
  refine (toFracS_any _ ys _ hy (HRE.out.keep (G4.out.al _))).mono ?_
  rintro e w5 ⟨he, x5, hg5⟩
  rw [alg] at he x5
  subst he
  have hal := ((Gr.refl w4).al (.cells (bncA a b (some ⟨g4, 0, none⟩) xs.length xs.length N kb u v (some ⟨h4, 0, none⟩) ts.length ts.length) 41)).trans hg5
  have Y5 := hid x5; have ZY := hid (ltb x5); have H45 := hid hal.size
  have K5 := hid (hg5.keep (alloc1 (w := w4) (A := (.cells (bncA a b (some ⟨g4, 0, none⟩) xs.length xs.length N kb u v (some ⟨h4, 0, none⟩) ts.length ts.length) 41)) (Gr.refl _)).1)
  clear x5 hg5 alg
  have X5 := hid (hal.keep X4.out); have T5 := hid (hal.keep T4.out); have V5 := hid (hal.keep V4.out); have B5 := hid (hal.keep B4.out); have O5 := hid (own_gr O4.out hal); have Q5 := hid (own_gr Q4.out hal); have G5 := hid (G4.out.trans hal)
  clear hal X4 T4 V4 B4 O4 Q4
  obtain ⟨_, _, _, _, _, _, _, _⟩ := cells8 K5.out
  go_wp2_with fail
  refine (HI.out _ _ _ _ _ _ _ (hid (RdF.of_block X5.out)) (hid (RdTg.of_block T5.out)) (hid (RdF.of_block Y5.out))).mono ?_
  rintro e w6 ⟨Ag, cg, Dg, dg, rfl, o6, q6, hg6⟩
  have V6a := hid (hg6.keep V5.out)
  have H56 := hid hg6.size
  have LG := hid (own_lt o6); have MG := hid (own_lt q6)
  have OG6 := hid (own_gr o6 ((Gr.refl w6).al (.cells (bncA p q Ag zs.length cg N' kb' u' v' Dg ss.length dg) 41))); have QG6 := hid (own_gr q6 ((Gr.refl w6).al (.cells (bncA p q Ag zs.length cg N' kb' u' v' Dg ss.length dg) 41)))
  have P6 := hid (alloc1 (w := w6) (A := (.cells (bncA p q Ag zs.length cg N' kb' u' v' Dg ss.length dg) 41)) (Gr.refl _)).1
  have hal := hg6.trans ((Gr.refl w6).al (.cells (bncA p q Ag zs.length cg N' kb' u' v' Dg ss.length dg) 41))
  clear o6 q6 hg6
  have X6 := hid (hal.keep X5.out); have T6 := hid (hal.keep T5.out); have Y6 := hid (hal.keep Y5.out); have V6 := hid (hal.keep V5.out); have B6 := hid (hal.keep B5.out); have K6 := hid (hal.keep K5.out); have O6 := hid (own_gr O5.out hal); have Q6 := hid (own_gr Q5.out hal); have G6 := hid (G5.out.trans hal)
  clear hal X5 T5 Y5 V5 B5 K5 O5 Q5
  obtain ⟨_, _, _, _, _, _, _, _⟩ := cells8 V6a.out
  have _ := ltb V6a.out
  go_wp2_with fail
  refine (eqBn_any _ _ _ _ _ _ zs _ _ _ _ _ _ _ _ ss _ hzs hss (hid (RdF.of_ownF OG6.out)) (hid (RdF.of_ownF O6.out)) (hid (RdTg.of_own QG6.out)) (hid (RdTg.of_own Q6.out))).mono ?_
  rintro e w7 ⟨rfl, hg7⟩
  have X7 := hid (hg7.keep X6.out); have T7 := hid (hg7.keep T6.out); have Y7 := hid (hg7.keep Y6.out); have V7 := hid (hg7.keep V6.out); have B7 := hid (hg7.keep B6.out); have K7 := hid (hg7.keep K6.out); have P7 := hid (hg7.keep P6.out); have O7 := hid (own_gr O6.out hg7); have Q7 := hid (own_gr Q6.out hg7); have OG7 := hid (own_gr OG6.out hg7); have QG7 := hid (own_gr QG6.out hg7); have G7 := hid (G6.out.trans hg7)
  clear hg7 X6 T6 Y6 V6 B6 K6 P6 O6 Q6 OG6 QG6
  clear V6a
  obtain ⟨_, _, _, _, _, _, _, _⟩ := cells8 B7.out
  have _ := ltb B7.out
  obtain ⟨_, _, _, _, _, _, _, _⟩ := cells8 K7.out
  have _ := ltb K7.out
  go_wp2_with fail
  go_cut [58] from 54 to 58 (fun s wx => s = .bool false ∧ Gr w7 wx)
  case first =>
    go_region_with (first | (go_at_call 13; refine (toBn_any _ _ _ _ xs _ _ _ _ _ _ ts _ hn hm (HR.out.keep (G7.out.trans (Gr.drew _))) (HT.out.keep (G7.out.trans (Gr.drew _)))).mono ?_; rintro x w8 ⟨g8, h8, rfl, ⟨x8, t8, _⟩, _, hg8⟩; have X8 := hid x8; have T8 := hid t8; have G8 := hid ((Gr.drew _).trans hg8); have XX := hid (G8.out.keep X7.out); have TT := hid (G8.out.keep T7.out); obtain ⟨_, _, _, _, _, _, _, _⟩ := cells8 (G8.out.keep K7.out); clear x8 t8 hg8) | (go_at_call 16; refine (eqBn_any _ _ _ _ _ _ xs _ _ _ _ _ _ _ _ ts _ hn hm (hid (RdF.of_block XX.out)) (hid (RdF.of_block X8.out)) (hid (RdTg.of_block TT.out)) (hid (RdTg.of_block T8.out))).mono ?_; rintro x w9 ⟨rfl, hg9⟩; have G9 := hid (G8.out.trans hg9); clear hg9))
    all_goals (go_wp2_with fail; go_meet; exact ⟨rfl, G9.out⟩)
  case rest =>
  obtain ⟨rfl, hg8⟩ := hcut
  have X8 := hid (hg8.keep X7.out); have T8 := hid (hg8.keep T7.out); have Y8 := hid (hg8.keep Y7.out); have V8 := hid (hg8.keep V7.out); have B8 := hid (hg8.keep B7.out); have K8 := hid (hg8.keep K7.out); have P8 := hid (hg8.keep P7.out); have O8 := hid (own_gr O7.out hg8); have Q8 := hid (own_gr Q7.out hg8); have OG8 := hid (own_gr OG7.out hg8); have QG8 := hid (own_gr QG7.out hg8); have G8 := hid (G7.out.trans hg8)
  clear hg8 X7 T7 Y7 V7 B7 K7 P7 O7 Q7 OG7 QG7
  go_wp2_with fail
  refine (toFracS_any _ ys _ hy (HRE.out.keep G8.out)).mono ?_
  rintro e w9 ⟨rfl, x9, hg9⟩
  have YN := hid x9
  clear x9
  have X9 := hid (hg9.keep X8.out); have T9 := hid (hg9.keep T8.out); have Y9 := hid (hg9.keep Y8.out); have V9 := hid (hg9.keep V8.out); have B9 := hid (hg9.keep B8.out); have K9 := hid (hg9.keep K8.out); have P9 := hid (hg9.keep P8.out); have O9 := hid (own_gr O8.out hg9); have Q9 := hid (own_gr Q8.out hg9); have OG9 := hid (own_gr OG8.out hg9); have QG9 := hid (own_gr QG8.out hg9); have G9 := hid (G8.out.trans hg9)
  clear hg9 X8 T8 Y8 V8 B8 K8 P8 O8 Q8 OG8 QG8
  go_wp2_with fail
  refine (eqF_any _ _ _ _ ys _ (hid (RdF.of_block Y9.out)) (hid (RdF.of_block YN.out)) hy).mono ?_
  rintro e w10 ⟨rfl, hg10⟩
  have X10 := hid (hg10.keep X9.out); have T10 := hid (hg10.keep T9.out); have Y10 := hid (hg10.keep Y9.out); have V10 := hid (hg10.keep V9.out); have B10 := hid (hg10.keep B9.out); have K10 := hid (hg10.keep K9.out); have P10 := hid (hg10.keep P9.out); have O10 := hid (own_gr O9.out hg10); have Q10 := hid (own_gr Q9.out hg10); have OG10 := hid (own_gr OG9.out hg10); have QG10 := hid (own_gr QG9.out hg10); have G10 := hid (G9.out.trans hg10)
  clear hg10 X9 T9 Y9 V9 B9 K9 P9 O9 Q9 OG9 QG9
  clear YN
  obtain ⟨_, _, _, _, _, _, _, _⟩ := cells8 K10.out
  have _ := ltb K10.out
  go_wp2_with fail
  refine (markBn_any a b g4 xs.length xs.length N kb u v h4 ts.length ts.length 1 (flatA xs) (rowTg ts []) _ _ _ X10 T10 NE4.out (by unfold flatA; simp [flatL_len]) (by rw [rowTg_size]; omega) hn hm (by omega) (by omega)).mono ?_
  rintro e w11 ⟨rfl, wm, onA, onB⟩
  have gtA := hid fun (j : Nat) (hj : w4.heap.size ≤ j) => Nat.ne_of_gt (Nat.lt_of_lt_of_le Z4.out hj)
  have gtB := hid fun (j : Nat) (hj : w4.heap.size ≤ j) => Nat.ne_of_gt (Nat.lt_of_lt_of_le ZH.out hj)
  have ltA := hid fun (j : Nat) (hj : j < (wq.alloc (.cells (bncA p q A3 zs.length c3 N' kb' u' v' D3 ss.length d3) 41)).heap.size) => Nat.ne_of_lt (Nat.lt_of_lt_of_le hj H4.out)
  have ltB := hid fun (j : Nat) (hj : j < (wq.alloc (.cells (bncA p q A3 zs.length c3 N' kb' u' v' D3 ss.length d3) 41)).heap.size) => Nat.ne_of_lt (Nat.lt_of_lt_of_le hj K4.out)
  have H46 := hid (Nat.le_trans H45.out H56.out)
  have OG11 := hid (own_only (own_only OG10.out onA (fun ad he => gtA.out _ (Nat.le_trans H45.out (LG.out ad he).1))) onB (fun ad he => gtB.out _ (Nat.le_trans H45.out (LG.out ad he).1)))
  have QG11 := hid (own_only (own_only QG10.out onA (fun ad he => gtA.out _ (Nat.le_trans H45.out (MG.out ad he).1))) onB (fun ad he => gtB.out _ (Nat.le_trans H45.out (MG.out ad he).1)))
  have R11 := hid (((RdF.of_ownF O10.out).only onA (fun ad he => ltA.out _ (L3.out ad he).2)).only onB (fun ad he => ltB.out _ (L3.out ad he).2))
  have S11 := hid (((RdTg.of_own Q10.out).only onA (fun ad he => ltA.out _ (M3.out ad he).2)).only onB (fun ad he => ltB.out _ (M3.out ad he).2))
  have V11 := hid (onB.1 _ _ (ltB.out _ Z3.out) (onA.1 _ _ (ltA.out _ Z3.out) V10.out))
  have P11 := hid (onB.1 _ _ (gtB.out _ H46.out) (onA.1 _ _ (gtA.out _ H46.out) P10.out))
  have Y11 := hid (onB.1 _ _ (gtB.out _ (Nat.le_succ _)) (onA.1 _ _ (gtA.out _ (Nat.le_succ _)) Y10.out))
  have B11 := hid (onB.1 _ _ (ltB.out _ (Nat.lt_of_lt_of_le HB2.out HW3.out)) (onA.1 _ _ (ltA.out _ (Nat.lt_of_lt_of_le HB2.out HW3.out)) B10.out))
  have G11 := hid (onB.2 w (onA.2 w G10.out (Nat.le_trans G3.out.size H4.out)) (Nat.le_trans G3.out.size K4.out))
  clear onA onB OG10 QG10 O10 Q10 X10 T10 Y10 V10 P10 B10 K10
  go_wp2_with fail
  refine (markF_any _ _ _ _ (flatA ys) _ _ Y11 (by unfold flatA; simp [flatL_len]) hy (by omega) (by omega)).mono ?_
  rintro e w12 ⟨rfl, _, on12⟩
  have HWY := hid (Nat.le_succ_of_le H34.out)
  have OG12 := hid (own_only OG11.out on12 (fun ad he => Nat.ne_of_gt (Nat.lt_of_lt_of_le ZY.out (LG.out ad he).1)))
  have QG12 := hid (own_only QG11.out on12 (fun ad he => Nat.ne_of_gt (Nat.lt_of_lt_of_le ZY.out (MG.out ad he).1)))
  have R12 := hid (R11.out.only on12 (fun ad he => Nat.ne_of_lt (Nat.lt_of_lt_of_le (L3.out ad he).2 HWY.out)))
  have S12 := hid (S11.out.only on12 (fun ad he => Nat.ne_of_lt (Nat.lt_of_lt_of_le (M3.out ad he).2 HWY.out)))
  have V12 := hid (on12.1 _ _ (Nat.ne_of_lt (Nat.lt_of_lt_of_le Z3.out HWY.out)) V11.out)
  have P12 := hid (on12.1 _ _ (Nat.ne_of_gt (Nat.lt_of_lt_of_le ZY.out H56.out)) P11.out)
  have B12 := hid (on12.1 _ _ (Nat.ne_of_lt (Nat.lt_of_lt_of_le HB2.out (Nat.le_trans HW3.out HWY.out))) B11.out)
  have G12 := hid (on12.2 w G11.out (Nat.le_trans G3.out.size HWY.out))
  clear on12 OG11 QG11 R11 S11 Y11 V11 P11 B11
  obtain ⟨_, _, _, _, _, _, _, _⟩ := cells8 V12.out
  have _ := ltb V12.out
  obtain ⟨_, _, _, _, _, _, _, _⟩ := cells8 P12.out
  have _ := ltb P12.out
  go_wp2_with fail
  refine (eqBn_any _ _ _ _ _ _ zs _ _ _ _ _ _ _ _ ss _ hzs hss (hid (RdF.of_ownF OG12.out)) R12 (hid (RdTg.of_own QG12.out)) S12).mono ?_
  rintro e w13 ⟨rfl, hg13⟩
  have V13 := hid (hg13.keep V12.out); have B13 := hid (hg13.keep B12.out); have P13 := hid (hg13.keep P12.out); have OG13 := hid (own_gr OG12.out hg13); have QG13 := hid (own_gr QG12.out hg13); have R13 := hid (R12.out.keep hg13); have S13 := hid (S12.out.keep hg13); have G13 := hid (G12.out.trans hg13)
  clear hg13 V12 B12 P12 OG12 QG12 R12 S12
  obtain ⟨_, _, _, _, _, _, _, _⟩ := cells8 P13.out
  have _ := ltb P13.out
  go_wp2_with fail
  refine (markOwnBn _ _ _ _ _ _ _ _ _ _ _ _ _ 1 _ OG13 QG13 hzs hss (by omega) (by omega)).mono ?_
  rintro e w14 ⟨rfl, ⟨wm, gg, gh, hgg, hgh, onA, onB⟩, m14, n14, ot14⟩
  have M14 := hid m14; have N14 := hid n14
  have H35 := hid (Nat.le_trans H34.out (Nat.le_trans H45.out hgg))
  have H36 := hid (Nat.le_trans H34.out (Nat.le_trans H45.out hgh))
  have R14 := hid ((R13.out.only onA (fun ad he => Nat.ne_of_lt (Nat.lt_of_lt_of_le (L3.out ad he).2 H35.out))).only onB (fun ad he => Nat.ne_of_lt (Nat.lt_of_lt_of_le (L3.out ad he).2 H36.out)))
  have S14 := hid ((S13.out.only onA (fun ad he => Nat.ne_of_lt (Nat.lt_of_lt_of_le (M3.out ad he).2 H35.out))).only onB (fun ad he => Nat.ne_of_lt (Nat.lt_of_lt_of_le (M3.out ad he).2 H36.out)))
  have V14 := hid (ot14 _ _ _ (by decide) (by decide) V13.out)
  have P14 := hid (ot14 _ _ _ (by decide) (by decide) P13.out)
  have B14 := hid (ot14 _ _ _ (by decide) (by decide) B13.out)
  have G14 := hid (onB.2 w (onA.2 w G13.out (Nat.le_trans G3.out.size H35.out)) (Nat.le_trans G3.out.size H36.out))
  clear onA onB m14 n14 ot14 OG13 QG13 R13 S13 V13 P13 B13
  obtain ⟨_, _, _, _, _, _, _, _⟩ := cells8 P14.out
  have _ := ltb P14.out
  go_wp2_with fail
  refine (heldBn_any _ _ _ _ _ _ _ _ _ _ _ _ _ _ M14 N14 hzs hss (by omega) (by omega)).mono ?_
  rintro e w15 ⟨rfl, hg15⟩
  have V15 := hid (hg15.keep V14.out); have B15 := hid (hg15.keep B14.out); have P15 := hid (hg15.keep P14.out); have M15 := hid (M14.out.keep hg15); have N15 := hid (N14.out.keep hg15); have R15 := hid (R14.out.keep hg15); have S15 := hid (S14.out.keep hg15); have G15 := hid (G14.out.trans hg15)
  clear hg15 V14 B14 P14 M14 N14 R14 S14
  obtain ⟨_, _, _, _, _, _, _, _⟩ := cells8 B15.out
  have _ := ltb B15.out
  go_wp2_with fail
  refine (toBn_any _ _ _ _ xs _ _ _ _ _ _ ts _ hn hm (HR.out.keep G15.out) (HT.out.keep G15.out)).mono ?_
  rintro e wd ⟨gd, hd, rfl, ⟨xd, td, _⟩, _, hgd⟩
  have XD := hid xd; have TD := hid td; have GD := hid hgd
  clear xd td hgd
  go_wp2_with fail
  refine (toFracS_any _ ys _ hy (HRE.out.keep (G15.out.trans GD.out))).mono ?_
  rintro e we ⟨rfl, xe, hge⟩
  have XE := hid xe; have XD2 := hid (hge.keep XD.out); have TD2 := hid (hge.keep TD.out); have GE := hid (GD.out.trans hge)
  clear xe hge XD TD
  go_wp2_with fail
  refine (HI.out _ _ _ _ _ _ _ (hid (RdF.of_block XD2.out)) (hid (RdTg.of_block TD2.out)) (hid (RdF.of_block XE.out))).mono ?_
  rintro e wf ⟨Ah, ch, Dh, dh, rfl, oh, ph, hgf⟩
  have VF := hid (hgf.keep (GE.out.keep V15.out))
  have RH := hid (RdF.of_ownF (own_gr oh ((Gr.refl wf).al (.cells (bncA p q Ah zs.length ch N' kb' u' v' Dh ss.length dh) 41)))); have SH := hid (RdTg.of_own (own_gr ph ((Gr.refl wf).al (.cells (bncA p q Ah zs.length ch N' kb' u' v' Dh ss.length dh) 41))))
  have hg16 := (GE.out.trans hgf).trans ((Gr.refl wf).al (.cells (bncA p q Ah zs.length ch N' kb' u' v' Dh ss.length dh) 41))
  clear oh ph hgf XD2 TD2 XE GD GE
  have V16 := hid (hg16.keep V15.out); have P16 := hid (hg16.keep P15.out); have M16 := hid (M15.out.keep hg16); have N16 := hid (N15.out.keep hg16); have R16 := hid (R15.out.keep hg16); have S16 := hid (S15.out.keep hg16); have G16 := hid (G15.out.trans hg16)
  clear hg16 V15 P15 M15 N15 R15 S15
  obtain ⟨_, _, _, _, _, _, _, _⟩ := cells8 VF.out
  have _ := ltb VF.out
  go_wp2_with fail
  refine (eqBn_any _ _ _ _ _ _ zs _ _ _ _ _ _ _ _ ss _ hzs hss RH R16 SH S16).mono ?_
  rintro e w17 ⟨rfl, hg17⟩
  have P17 := hid (hg17.keep P16.out); have M17 := hid (M16.out.keep hg17); have N17 := hid (N16.out.keep hg17); have G17 := hid (G16.out.trans hg17)
  clear hg17 P16 M16 N16
  clear RH R16 SH S16
  obtain ⟨_, _, _, _, _, _, _, _⟩ := cells8 P17.out
  have _ := ltb P17.out
  go_wp2_with fail
  refine (heldBn_any _ _ _ _ _ _ _ _ _ _ _ _ _ _ M17 N17 hzs hss (by omega) (by omega)).mono ?_
  rintro e w18 ⟨rfl, hg18⟩
  have G18 := hid (G17.out.trans hg18)
  clear hg18 M17 N17
  go_wp2_with fail
  go_ret
  exact ⟨rfl, G18.out⟩
set_option maxRecDepth 20000 in
set_option maxHeartbeats 400000 in
theorem lawCorrectBench_big (a b : Int) (A : Option Addr) (cap : Nat) (xs : List (Int × Int)) (N : Int) (kb : Bool) (u v : Int) (B : Option Addr) (capB : Nat) (ts : List Tgv) (E : Option Addr) (m capE : Nat) (w : World) (hrT : RawTg w (.slice B ts.length capB) ts) (hn : xs.length ≤ 9223372036854775807) (hm : ts.length ≤ 9223372036854775807) (hz : ∀ x ∈ ts, x.nm.size ≤ 9223372036854775807) (hq : szToB xs ts 1048576 = -1) :
    Calls Try.prog 3 #[bnc a b A xs.length cap N kb u v B ts.length capB, .slice E m capE] w fun e w' => e = .returned (.bool true) ∧ Gr w w' := by
  have HT := hid hrT; have HZ := hid hz; have HQ := hid hq
  clear hrT hz hq
  go_enter Try.func3, Try.ntmps3
  go_wp2_with fail
  refine (szBn_is _ _ _ _ xs _ _ _ _ _ _ ts _ _ _ (HT.out.keep ((Gr.refl w).al _)) (by omega) (by omega) HZ.out (by omega) (by omega) HQ.out).mono ?_
  rintro e w1 ⟨rfl, hg1⟩
  obtain ⟨x1_0, hz1, g1⟩ := alloc1 hg1
  obtain ⟨_, _, _, _, _, _, _, _⟩ := cells8 x1_0
  have _ := fz x1_0
  have _ := ltb x1_0
  have X1_0 := hid x1_0; clear x1_0
  have G1 := hid (g1)
  clear hg1 g1
  go_wp2
  go_ret
  exact ⟨rfl, G1.out⟩
set_option maxRecDepth 20000 in
set_option maxHeartbeats 400000 in
theorem lawCorrectBench_big2 (a b : Int) (A : Option Addr) (cap : Nat) (xs : List (Int × Int)) (N : Int) (kb : Bool) (u v : Int) (B : Option Addr) (capB : Nat) (ts : List Tgv) (E : Option Addr) (m capE : Nat) (qz : Int) (w : World) (hrT : RawTg w (.slice B ts.length capB) ts) (hn : xs.length ≤ 9223372036854775807) (hm : ts.length ≤ 9223372036854775807) (hz : ∀ x ∈ ts, x.nm.size ≤ 9223372036854775807) (hq : szToB xs ts 1048576 = qz) (hq0 : 0 ≤ qz) (hq1 : qz ≤ 1048576) (h : ¬ (m : Int) ≤ qz) (h2 : m ≤ 9223372036854775807) :
    Calls Try.prog 3 #[bnc a b A xs.length cap N kb u v B ts.length capB, .slice E m capE] w fun e w' => e = .returned (.bool true) ∧ Gr w w' := by
  have HT := hid hrT; have HZ := hid hz; have HQ := hid hq
  have HSZ := hid fun (w : World) => (szF E m capE qz w h2 hq0 hq1).mono (R' := fun e w' => e = .returned (.int .i64 (-1)) ∧ Gr w w') fun e w' hh => ⟨by rw [hh.1, if_neg h], hh.2⟩
  clear hrT hz hq
  go_enter Try.func3, Try.ntmps3
  go_wp2_with fail
  refine (szBn_is _ _ _ _ xs _ _ _ _ _ _ ts _ _ _ (HT.out.keep ((Gr.refl w).al _)) (by omega) (by omega) HZ.out (by omega) (by omega) HQ.out).mono ?_
  rintro e w1 ⟨rfl, hg1⟩
  obtain ⟨x1_0, hz1, g1⟩ := alloc1 hg1
  obtain ⟨_, _, _, _, _, _, _, _⟩ := cells8 x1_0
  have _ := fz x1_0
  have _ := ltb x1_0
  have X1_0 := hid x1_0; clear x1_0
  have G1 := hid (g1)
  clear hg1 g1
  go_wp2_with fail
  refine (HSZ.out _).mono ?_
  rintro e w2 ⟨rfl, hg2⟩
  have x2_1 := hg2.keep X1_0.out
  obtain ⟨_, _, _, _, _, _, _, _⟩ := cells8 x2_1
  have _ := fz x2_1
  have _ := ltb x2_1
  have X2_1 := hid x2_1; clear x2_1
  have G2 := hid (G1.out.trans hg2)
  clear hg2
  go_wp2
  go_ret
  exact ⟨rfl, G2.out⟩

open Go.ChangeShapes Go.WideShapes Go.ChangeAt Go.Joins
theorem laidOutCorrectBench : laidOutB Try.prog = true := by as_aux_lemma => kernel_rfl
set_option maxRecDepth 100000 in
theorem liftedCorrectBench (os : Os) (started : os.Started) (H : Type) (enc : TypeId × Value → H) :
    ReturnsInHanded {} Try.checked os 3 .any (Rows.fnExactCorrectBenchSpec.pre6 enc Try.prog Try.f3 Rows.fnExactCorrectBenchRow.domain false) (Rows.fnExactCorrectBenchSpec.post enc Try.prog Try.f3 false true false false) := by
  refine returnsInHanded_of_change (C := Try.checked) ownNone started (by kernel_rfl) Try.func3
    (ChangeSpec.witness6 (enc := enc) (C := Try.checked) false ⟨#[], #[.agg #[.int .i64 0, .int .i64 0, .slice none 0 0, .int .i64 0, .bool false, .int .i64 0, .int .i64 0, .slice none 0 0], .slice none 0 0], []⟩ 8 (by kernel_rfl) (by kernel_rfl) (by kernel_rfl) (by kernel_rfl)) ?_
  intro W base args ds gs before hval0 hW _ _
  have hval : ∀ (j : Nat) t v, Try.f3.params[j]? = some t → args[j]? = some v → Value.okWide Try.prog W .any base t v := hval0
  have hW' := hW
  obtain ⟨p, q, hA0, hV, rfl, _, _⟩ := hW
  have hA : DataW.TrodAll enc Try.prog W 0 (fun _ => true) true Try.f3.params.toList args.toList ds p := hA0
  rw [Try.params3] at hA hval
  obtain ⟨u0, u1, d0, d1, p0, p1, rfl, rfl, rfl, h0, h1⟩ := trodAll_two hA
  obtain ⟨rfl, rfl⟩ := trodVars_none hV
  clear hA0 hval0
  simp only [List.append_nil] at hW'
  have hlt : ∀ x ∈ p0 ++ p1, x.block < W.heap.size := fun x hx => by simpa using hW'.lt x hx
  have done : ∀ (e : Ending) (W' : World), e = .returned (.bool true) ∧ Gr W W' → ∃ v, e = .returned v ∧ Rows.fnExactCorrectBenchSpec.post enc Try.prog Try.f3 false true false false W #[u0, u1] v W' := fun e W' ⟨he, hg⟩ => by
    subst he
    exact ⟨_, rfl, _, _, _, [], p0 ++ p1, [], hW', trodAll_mk1 (shut_bool Try.underlying4 _), trodAll_mk2 (Below.trod laidOutCorrectBench (by kernel_rfl) (of_decide_eq_true (by kernel_rfl)) h0 hg.below (fun x hx => hlt x (List.mem_append_left _ hx))) (Below.trod laidOutCorrectBench (by kernel_rfl) (of_decide_eq_true (by kernel_rfl)) h1 hg.below (fun x hx => hlt x (List.mem_append_right _ hx))), rfl, hg.below.frame _, fun h => by cases h⟩
  obtain ⟨a, b, A, m, cap, N, kb, u, v, B, l, capB, rfl, hmax, hmaxB, xs, ts, rfl, rfl, hraw, hrawT, hz⟩ := open_bench (hval 0 31 u0 rfl rfl) h0
  obtain ⟨E, m, capE, rfl⟩ := okWide_slice Try.underlying24 (hval 1 24 u1 rfl rfl)
  obtain ⟨hmaxE, ys, rfl, hrawE⟩ := open_fracs h1
  obtain ⟨qz, hqz⟩ : ∃ q, szToB xs ts 1048576 = q := ⟨_, rfl⟩
  obtain ⟨bq1, bq2, bq3⟩ := szToB_bd (by omega) hqz
  by_cases hq0 : 0 ≤ qz
  · obtain ⟨hn, hm⟩ := bq3 hq0
    by_cases hyq : (ys.length : Int) ≤ qz
    · obtain ⟨p, q, zs, N', kb', u', v', ss, C, hzs, hss, hs, hi⟩ := bothCorrectBench a b xs N kb u v ts ys (by omega) (by omega) (by omega) hz
      exact (lawCorrectBench a b A B E cap capB capE xs N kb u v ts ys p q zs N' kb' u' v' ss C qz W hraw hrawT hrawE (by omega) (by omega) (by omega) hz hzs hss hqz hq0 bq2 hyq hs hi).mono done
    · exact (lawCorrectBench_big2 a b A cap xs N kb u v B capB ts E ys.length capE qz W hrawT hmax hmaxB hz hqz hq0 bq2 hyq hmaxE).mono done
  · exact (lawCorrectBench_big a b A cap xs N kb u v B capB ts E ys.length capE W hrawT hmax hmaxB hz (by omega)).mono done

set_option maxHeartbeats 2000000 in
theorem closedCorrectBench : joinedFacts Try.pinned.checked.prog 3 Try.f3 Rows.fnExactCorrectBenchSpec Rows.fnExactCorrectBenchRow = true := by
  unfold joinedFacts
  refine Bool.and_eq_true_iff.2 ⟨?_, by as_aux_lemma => kernel_rfl⟩
  refine Bool.and_eq_true_iff.2 ⟨?_, by as_aux_lemma => kernel_rfl⟩
  refine Bool.and_eq_true_iff.2 ⟨?_, by as_aux_lemma => kernel_rfl⟩
  refine Bool.and_eq_true_iff.2 ⟨?_, by as_aux_lemma => kernel_rfl⟩
  refine Bool.and_eq_true_iff.2 ⟨?_, by rw [fact_make]; rfl⟩
  refine Bool.and_eq_true_iff.2 ⟨?_, by rw [fact_final]; rfl⟩
  refine Bool.and_eq_true_iff.2 ⟨?_, fact_enters⟩
  refine Bool.and_eq_true_iff.2 ⟨?_, by as_aux_lemma => kernel_rfl⟩
  refine Bool.and_eq_true_iff.2 ⟨?_, by as_aux_lemma => kernel_rfl⟩
  refine Bool.and_eq_true_iff.2 ⟨?_, by as_aux_lemma => kernel_rfl⟩
  refine Bool.and_eq_true_iff.2 ⟨?_, by as_aux_lemma => kernel_rfl⟩
  refine Bool.and_eq_true_iff.2 ⟨?_, by as_aux_lemma => kernel_rfl⟩
  refine Bool.and_eq_true_iff.2 ⟨?_, by as_aux_lemma => kernel_rfl⟩
  refine Bool.and_eq_true_iff.2 ⟨?_, by as_aux_lemma => kernel_rfl⟩
  refine Bool.and_eq_true_iff.2 ⟨?_, by as_aux_lemma => kernel_rfl⟩
  refine Bool.and_eq_true_iff.2 ⟨?_, by as_aux_lemma => kernel_rfl⟩
  refine Bool.and_eq_true_iff.2 ⟨?_, by as_aux_lemma => kernel_rfl⟩
  refine Bool.and_eq_true_iff.2 ⟨?_, by as_aux_lemma => kernel_rfl⟩
  refine Bool.and_eq_true_iff.2 ⟨?_, by as_aux_lemma => kernel_rfl⟩
  refine Bool.and_eq_true_iff.2 ⟨?_, by as_aux_lemma => kernel_rfl⟩
  refine Bool.and_eq_true_iff.2 ⟨?_, by as_aux_lemma => kernel_rfl⟩
  refine Bool.and_eq_true_iff.2 ⟨?_, by as_aux_lemma => kernel_rfl⟩
  refine Bool.and_eq_true_iff.2 ⟨?_, by as_aux_lemma => kernel_rfl⟩
  refine Bool.and_eq_true_iff.2 ⟨?_, by as_aux_lemma => kernel_rfl⟩
  refine Bool.and_eq_true_iff.2 ⟨?_, by as_aux_lemma => kernel_rfl⟩
  refine Bool.and_eq_true_iff.2 ⟨?_, by as_aux_lemma => kernel_rfl⟩
  refine Bool.and_eq_true_iff.2 ⟨?_, by as_aux_lemma => kernel_rfl⟩
  refine Bool.and_eq_true_iff.2 ⟨?_, by as_aux_lemma => kernel_rfl⟩
  refine Bool.and_eq_true_iff.2 ⟨?_, by as_aux_lemma => kernel_rfl⟩
  refine Bool.and_eq_true_iff.2 ⟨?_, by as_aux_lemma => kernel_rfl⟩
  as_aux_lemma => kernel_rfl
theorem correctBench_holds : Rows.FnExactCorrectBenchSaid :=
  OpenClaim.holds_of_wide 3 Try.f3 rfl rfl rfl rfl rfl rfl rfl ⟨rfl, rfl, rfl, rfl, rfl⟩ rfl rfl rfl rfl rfl (by as_aux_lemma => kernel_rfl) Try.func3 closedCorrectBench
    (of_decide_eq_true (by as_aux_lemma => kernel_rfl)) (by unfold Func.isWrapper; rw [if_neg (by decide +kernel)]; exact ⟨rfl, rfl⟩)
    (fun os started H enc _ => liftedCorrectBench os started H enc)
#print axioms correctBench_holds
end Go.Proofs.Ytfpcbgfcachlgaa
