/- The law FnExactWhoRead of the laws package returns true for every slice of readers, every slice of values and every slice of readings, valid or not; they read behind the call as before it. No condition. -/
import Derived.Test.YtpadjkgbeijkpaaRows
import Derived.Test.YtpadjkgbeijkpaaWv
import Derived.Test.YtpadjkgbeijkpaaMr
import Derived.Test.YtpadjkgbeijkpaaRh
import Derived.Test.YtpadjkgbeijkpaaRe
import Derived.Test.YtpadjkgbeijkpaaRf
import Derived.Test.YtpadjkgbeijkpaaRj
import Derived.Test.YtpadjkgbeijkpaaFu
import Derived.Test.YtpadjkgbeijkpaaFacts
import Derived.ProofKit
import Derived.Carry
import Derived.Lib.SmallJoins
namespace Go.Proofs.Ytpadjkgbeijkpaa
open Go.RowKit Go.Sort

set_option maxHeartbeats 400000 in
theorem szWr_yes (A : Option Addr) (n cap : Nat) (L : Int) (w : World) (h : (n : Int) ≤ L) (l1 : L ≤ 1048576) :
    Calls Try.prog 9 #[.slice A n cap, .int .i64 L] w fun e w' => e = .returned (.int .i64 (L - (n : Int))) ∧ Gr w w' := by
  go_enter Try.func9, Try.ntmps9
  go_wp2
  go_ret
  exact ⟨rfl, Gr.refl _⟩
set_option maxHeartbeats 400000 in
theorem szWr_no (A : Option Addr) (n cap : Nat) (L : Int) (w : World) (h : L < (n : Int)) (h2 : n ≤ 9223372036854775807) (l0 : 0 ≤ L) (l1 : L ≤ 1048576) :
    Calls Try.prog 9 #[.slice A n cap, .int .i64 L] w fun e w' => e = .returned (.int .i64 (-1)) ∧ Gr w w' := by
  go_enter Try.func9, Try.ntmps9
  go_wp2
  go_ret
  exact ⟨rfl, Gr.refl _⟩
set_option maxRecDepth 20000 in
set_option maxHeartbeats 8000000 in
theorem lawWhoRead (A B F : Option Addr) (cap capB capF : Nat) (xs : List Rqv) (fs : List (Int × Int)) (ns : List Int) (ys : List Int) (C q0 : Int) (w : World) (hr : RawRq w (.slice A xs.length cap) xs) (hrF : RawF w (.slice F fs.length capF) fs) (hrB : RawI w (.slice B ns.length capB) ns) (hn : xs.length ≤ 1048576) (hf : fs.length ≤ 1048576) (hm : ns.length ≤ 1048576) (hys : ys.length ≤ 1048576) (hmax : xs.length ≤ 9223372036854775807) (hz : ∀ x ∈ xs, x.nm.size ≤ 9223372036854775807) (hq : szToR xs 1048576 = q0) (hp : 0 ≤ q0) (hq1 : q0 ≤ 1048576) (hfq : (fs.length : Int) ≤ q0)
    (hs : ∀ (g h : Nat) (B : Option Addr) (c ch d : Nat) (w : World), Hid (RdRq w (some ⟨g, 0, none⟩) xs) → Hid (RdF w (some ⟨h, 0, none⟩) fs) → Hid (RdI w B ns) → Calls Try.prog 23 #[.slice (some ⟨g, 0, none⟩) xs.length c, .slice (some ⟨h, 0, none⟩) fs.length ch, .slice B ns.length d] w fun e w' => GivesI w w' e ys C)
    (hi : ∀ (g h : Nat) (B : Option Addr) (c ch d : Nat) (w : World), Hid (RdRq w (some ⟨g, 0, none⟩) xs) → Hid (RdF w (some ⟨h, 0, none⟩) fs) → Hid (RdI w B ns) → Calls Try.prog 25 #[.slice (some ⟨g, 0, none⟩) xs.length c, .slice (some ⟨h, 0, none⟩) fs.length ch, .slice B ns.length d] w fun e w' => GivesI w w' e ys C) :
    Calls Try.prog 5 #[.slice A xs.length cap, .slice F fs.length capF, .slice B ns.length capB] w fun x w' => x = .returned (.bool true) ∧ Gr w w' := by
  have HS := hid hs; have HI := hid hi; have HR := hid hr; have HRB := hid hrB; have HRF := hid hrF
  have HSZ := hid fun (w : World) (h : RawRq w (.slice A xs.length cap) xs) => szRq_is _ A cap xs 1048576 q0 w rfl h hmax hz (by omega) (by omega) hq
  have HSF := hid fun (w : World) => szWr_yes F fs.length capF q0 w hfq hq1
  have hpos : 0 ≤ q0 - (fs.length : Int) := by omega
  clear hs hi hr hrB hrF hz hq hmax hfq
  go_enter Try.func5, Try.ntmps5
  go_wp2_with fail
  refine (HSZ.out _ HR.out).mono ?_
  rintro e w1 ⟨rfl, hg⟩
  have G1 := hid (hg)
  have z1 : w.heap.size ≤ w1.heap.size := hg.size
  clear hg
  go_wp2_with fail
  refine (HSF.out _).mono ?_
  rintro e w2 ⟨rfl, hg⟩
  have G2 := hid (G1.out.trans hg)
  have z2 : w1.heap.size ≤ w2.heap.size := hg.size
  clear hg
  go_wp2_with fail
  refine (toReaderS_any _ xs _ hn (HR.out.keep G2.out)).mono ?_
  rintro e w3 ⟨rfl, xx, hg⟩
  have G3 := hid (G2.out.trans hg)
  have z3 : w2.heap.size ≤ w3.heap.size := hg.size
  have XS_3 := hid (xx)
  clear hg xx
  have yXS : w2.heap.size < w3.heap.size := ltb XS_3.out
  go_wp2_with fail
  refine (toFracS_any _ fs _ hf (HRF.out.keep G3.out)).mono ?_
  rintro e w4 ⟨rfl, xx, hg⟩
  have XS_4 := hid (hg.keep XS_3.out); clear XS_3
  have G4 := hid (G3.out.trans hg)
  have z4 : w3.heap.size ≤ w4.heap.size := hg.size
  have FS_4 := hid (xx)
  clear hg xx
  have yFS : w3.heap.size < w4.heap.size := ltb FS_4.out
  go_wp2_with fail
  refine (toInt64S_any _ ns _ hm (HRB.out.keep G4.out)).mono ?_
  rintro e w5 ⟨rfl, xx, hg⟩
  have XS_5 := hid (hg.keep XS_4.out); clear XS_4
  have FS_5 := hid (hg.keep FS_4.out); clear FS_4
  have G5 := hid (G4.out.trans hg)
  have z5 : w4.heap.size ≤ w5.heap.size := hg.size
  have YS_5 := hid (xx)
  clear hg xx
  have yYS : w4.heap.size < w5.heap.size := ltb YS_5.out
  go_wp2_with fail
  refine (HS.out _ _ _ _ _ _ _ (hid (RdRq.of_block XS_5.out)) (hid (RdF.of_block FS_5.out)) (hid (RdI.of_block YS_5.out))).mono ?_
  rintro e w6 ⟨A0, c0, rfl, xx, hg⟩
  have XS_6 := hid (hg.keep XS_5.out); clear XS_5
  have FS_6 := hid (hg.keep FS_5.out); clear FS_5
  have YS_6 := hid (hg.keep YS_5.out); clear YS_5
  have G6 := hid (G5.out.trans hg)
  have z6 : w5.heap.size ≤ w6.heap.size := hg.size
  have O_6 := hid (xx)
  clear hg xx
  have L0 := hid (own_lt O_6.out)
  clear XS_6 FS_6 YS_6
  go_wp2_with fail
  refine (toReaderS_any _ xs _ hn (HR.out.keep G6.out)).mono ?_
  rintro e w7 ⟨rfl, xx, hg⟩
  have O_7 := hid (own_gr O_6.out hg); clear O_6
  have G7 := hid (G6.out.trans hg)
  have z7 : w6.heap.size ≤ w7.heap.size := hg.size
  have XA_7 := hid (xx)
  clear hg xx
  have yXA : w6.heap.size < w7.heap.size := ltb XA_7.out
  go_wp2_with fail
  refine (toFracS_any _ fs _ hf (HRF.out.keep G7.out)).mono ?_
  rintro e w8 ⟨rfl, xx, hg⟩
  have O_8 := hid (own_gr O_7.out hg); clear O_7
  have XA_8 := hid (hg.keep XA_7.out); clear XA_7
  have G8 := hid (G7.out.trans hg)
  have z8 : w7.heap.size ≤ w8.heap.size := hg.size
  have FA_8 := hid (xx)
  clear hg xx
  have yFA : w7.heap.size < w8.heap.size := ltb FA_8.out
  go_wp2_with fail
  refine (toInt64S_any _ ns _ hm (HRB.out.keep G8.out)).mono ?_
  rintro e w9 ⟨rfl, xx, hg⟩
  have O_9 := hid (own_gr O_8.out hg); clear O_8
  have XA_9 := hid (hg.keep XA_8.out); clear XA_8
  have FA_9 := hid (hg.keep FA_8.out); clear FA_8
  have G9 := hid (G8.out.trans hg)
  have z9 : w8.heap.size ≤ w9.heap.size := hg.size
  have YA_9 := hid (xx)
  clear hg xx
  have yYA : w8.heap.size < w9.heap.size := ltb YA_9.out
  go_wp2_with fail
  refine (HI.out _ _ _ _ _ _ _ (hid (RdRq.of_block XA_9.out)) (hid (RdF.of_block FA_9.out)) (hid (RdI.of_block YA_9.out))).mono ?_
  rintro e w10 ⟨Ag, cg, rfl, xx, hg⟩
  have O_10 := hid (own_gr O_9.out hg); clear O_9
  have XA_10 := hid (hg.keep XA_9.out); clear XA_9
  have FA_10 := hid (hg.keep FA_9.out); clear FA_9
  have YA_10 := hid (hg.keep YA_9.out); clear YA_9
  have G10 := hid (G9.out.trans hg)
  have z10 : w9.heap.size ≤ w10.heap.size := hg.size
  have P_10 := hid (xx)
  clear hg xx
  have LG := hid (own_lt P_10.out)
  go_wp2_with fail
  refine (eqInt64S_any _ _ _ _ ys _ (hid (RdI.of_own P_10.out)) (hid (RdI.of_own O_10.out)) hys).mono ?_
  rintro e w11 ⟨rfl, hg⟩
  have O_11 := hid (own_gr O_10.out hg); clear O_10
  have XA_11 := hid (hg.keep XA_10.out); clear XA_10
  have FA_11 := hid (hg.keep FA_10.out); clear FA_10
  have YA_11 := hid (hg.keep YA_10.out); clear YA_10
  have P_11 := hid (own_gr P_10.out hg); clear P_10
  have G11 := hid (G10.out.trans hg)
  have z11 : w10.heap.size ≤ w11.heap.size := hg.size
  clear hg
  go_wp2_with fail
  refine (toReaderS_any _ xs _ hn (HR.out.keep G11.out)).mono ?_
  rintro e w12 ⟨rfl, xx, hg⟩
  have O_12 := hid (own_gr O_11.out hg); clear O_11
  have XA_12 := hid (hg.keep XA_11.out); clear XA_11
  have FA_12 := hid (hg.keep FA_11.out); clear FA_11
  have YA_12 := hid (hg.keep YA_11.out); clear YA_11
  have P_12 := hid (own_gr P_11.out hg); clear P_11
  have G12 := hid (G11.out.trans hg)
  have z12 : w11.heap.size ≤ w12.heap.size := hg.size
  have XN_12 := hid (xx)
  clear hg xx
  go_wp2_with fail
  refine (eqRqq_any _ _ _ _ xs _ (hid (RdRq.of_block XA_12.out)) (hid (RdRq.of_block XN_12.out)) hn).mono ?_
  rintro e w13 ⟨rfl, hg⟩
  have O_13 := hid (own_gr O_12.out hg); clear O_12
  have XA_13 := hid (hg.keep XA_12.out); clear XA_12
  have FA_13 := hid (hg.keep FA_12.out); clear FA_12
  have YA_13 := hid (hg.keep YA_12.out); clear YA_12
  have P_13 := hid (own_gr P_12.out hg); clear P_12
  have XN_13 := hid (hg.keep XN_12.out); clear XN_12
  have G13 := hid (G12.out.trans hg)
  have z13 : w12.heap.size ≤ w13.heap.size := hg.size
  clear hg
  clear XN_13
  go_wp2_with fail
  refine (toFracS_any _ fs _ hf (HRF.out.keep G13.out)).mono ?_
  rintro e w14 ⟨rfl, xx, hg⟩
  have O_14 := hid (own_gr O_13.out hg); clear O_13
  have XA_14 := hid (hg.keep XA_13.out); clear XA_13
  have FA_14 := hid (hg.keep FA_13.out); clear FA_13
  have YA_14 := hid (hg.keep YA_13.out); clear YA_13
  have P_14 := hid (own_gr P_13.out hg); clear P_13
  have G14 := hid (G13.out.trans hg)
  have z14 : w13.heap.size ≤ w14.heap.size := hg.size
  have FN_14 := hid (xx)
  clear hg xx
  go_wp2_with fail
  refine (eqFracS_any _ _ fs _ _ _ FA_14 FN_14 hf).mono ?_
  rintro e w15 ⟨rfl, hg⟩
  have O_15 := hid (own_gr O_14.out hg); clear O_14
  have XA_15 := hid (hg.keep XA_14.out); clear XA_14
  have FA_15 := hid (hg.keep FA_14.out); clear FA_14
  have YA_15 := hid (hg.keep YA_14.out); clear YA_14
  have P_15 := hid (own_gr P_14.out hg); clear P_14
  have FN_15 := hid (hg.keep FN_14.out); clear FN_14
  have G15 := hid (G14.out.trans hg)
  have z15 : w14.heap.size ≤ w15.heap.size := hg.size
  clear hg
  clear FN_15
  go_wp2_with fail
  refine (toInt64S_any _ ns _ hm (HRB.out.keep G15.out)).mono ?_
  rintro e w16 ⟨rfl, xx, hg⟩
  have O_16 := hid (own_gr O_15.out hg); clear O_15
  have XA_16 := hid (hg.keep XA_15.out); clear XA_15
  have FA_16 := hid (hg.keep FA_15.out); clear FA_15
  have YA_16 := hid (hg.keep YA_15.out); clear YA_15
  have P_16 := hid (own_gr P_15.out hg); clear P_15
  have G16 := hid (G15.out.trans hg)
  have z16 : w15.heap.size ≤ w16.heap.size := hg.size
  have YN_16 := hid (xx)
  clear hg xx
  go_wp2_with fail
  refine (eqInt64S_any _ _ _ _ ns _ (hid (RdI.of_block YA_16.out)) (hid (RdI.of_block YN_16.out)) hm).mono ?_
  rintro e w17 ⟨rfl, hg⟩
  have O_17 := hid (own_gr O_16.out hg); clear O_16
  have XA_17 := hid (hg.keep XA_16.out); clear XA_16
  have FA_17 := hid (hg.keep FA_16.out); clear FA_16
  have YA_17 := hid (hg.keep YA_16.out); clear YA_16
  have P_17 := hid (own_gr P_16.out hg); clear P_16
  have YN_17 := hid (hg.keep YN_16.out); clear YN_16
  have G17 := hid (G16.out.trans hg)
  have z17 : w16.heap.size ≤ w17.heap.size := hg.size
  clear hg
  clear YN_17
  go_wp2_with fail
  refine (markRq_any w6.heap.size _ xs.length 1 _ _ _ XA_17 (by simp [rowRq_size]) hn (by omega) (by omega)).mono ?_
  rintro e w18 ⟨rfl, on⟩
  have O_18 := hid (own_only O_17.out on (fun ad he => by have := L0.out ad he; omega)); clear O_17
  clear XA_17
  have FA_18 := hid (on.1 _ _ (by omega) FA_17.out); clear FA_17
  have YA_18 := hid (on.1 _ _ (by omega) YA_17.out); clear YA_17
  have P_18 := hid (own_only P_17.out on (fun ad he => by have := LG.out ad he; omega)); clear P_17
  have G18 := hid (on.2 w G17.out (by omega))
  have z18 : w.heap.size ≤ w18.heap.size := G18.out.size
  clear on
  go_wp2_with fail
  refine (markF_any w7.heap.size _ fs.length _ (flatA fs) _ _ FA_18 (by unfold flatA; simp [flatL_len]) hf (by omega) (by omega)).mono ?_
  rintro e w19 ⟨rfl, _, on⟩
  have O_19 := hid (own_only O_18.out on (fun ad he => by have := L0.out ad he; omega)); clear O_18
  clear FA_18
  have YA_19 := hid (on.1 _ _ (by omega) YA_18.out); clear YA_18
  have P_19 := hid (own_only P_18.out on (fun ad he => by have := LG.out ad he; omega)); clear P_18
  have G19 := hid (on.2 w G18.out (by omega))
  have z19 : w.heap.size ≤ w19.heap.size := G19.out.size
  clear on
  go_wp2_with fail
  refine (markJ_any w8.heap.size _ ns.length _ (intA ns) _ _ YA_19 (by simp [intA]) hm (by omega) (by omega)).mono ?_
  rintro e w20 ⟨rfl, _, on⟩
  have O_20 := hid (own_only O_19.out on (fun ad he => by have := L0.out ad he; omega)); clear O_19
  clear YA_19
  have P_20 := hid (own_only P_19.out on (fun ad he => by have := LG.out ad he; omega)); clear P_19
  have G20 := hid (on.2 w G19.out (by omega))
  have z20 : w.heap.size ≤ w20.heap.size := G20.out.size
  clear on
  go_wp2_with fail
  refine (eqInt64S_any _ _ _ _ ys _ (hid (RdI.of_own P_20.out)) (hid (RdI.of_own O_20.out)) hys).mono ?_
  rintro e w21 ⟨rfl, hg⟩
  have O_21 := hid (own_gr O_20.out hg); clear O_20
  have P_21 := hid (own_gr P_20.out hg); clear P_20
  have G21 := hid (G20.out.trans hg)
  have z21 : w20.heap.size ≤ w21.heap.size := hg.size
  clear hg
  go_wp2_with fail
  refine (markOwn _ _ _ _ _ 1 _ P_21 hys (by omega) (by omega)).mono ?_
  rintro e w22 ⟨rfl, gg, hgg, on, mm⟩
  have O_22 := hid (own_only O_21.out on (fun ad he => by have := L0.out ad he; omega)); clear O_21 P_21
  have M_22 := hid mm
  have G22 := hid (on.2 w G21.out (by omega))
  have z22 : w.heap.size ≤ w22.heap.size := G22.out.size
  clear on mm
  go_wp2_with fail
  refine (heldInt64S_any _ _ _ _ _ M_22 hys (by omega) (by omega)).mono ?_
  rintro e w23 ⟨rfl, hg⟩
  have O_23 := hid (own_gr O_22.out hg); clear O_22
  have M_23 := hid (M_22.out.keep hg); clear M_22
  have G23 := hid (G22.out.trans hg)
  have z23 : w22.heap.size ≤ w23.heap.size := hg.size
  clear hg
  go_wp2_with fail
  refine (toReaderS_any _ xs _ hn (HR.out.keep G23.out)).mono ?_
  rintro e w24 ⟨rfl, xx, hg⟩
  have O_24 := hid (own_gr O_23.out hg); clear O_23
  have M_24 := hid (M_23.out.keep hg); clear M_23
  have G24 := hid (G23.out.trans hg)
  have z24 : w23.heap.size ≤ w24.heap.size := hg.size
  have XB_24 := hid (xx)
  clear hg xx
  have yXB : w23.heap.size < w24.heap.size := ltb XB_24.out
  go_wp2_with fail
  refine (toFracS_any _ fs _ hf (HRF.out.keep G24.out)).mono ?_
  rintro e w25 ⟨rfl, xx, hg⟩
  have O_25 := hid (own_gr O_24.out hg); clear O_24
  have M_25 := hid (M_24.out.keep hg); clear M_24
  have XB_25 := hid (hg.keep XB_24.out); clear XB_24
  have G25 := hid (G24.out.trans hg)
  have z25 : w24.heap.size ≤ w25.heap.size := hg.size
  have FB_25 := hid (xx)
  clear hg xx
  have yFB : w24.heap.size < w25.heap.size := ltb FB_25.out
  go_wp2_with fail
  refine (toInt64S_any _ ns _ hm (HRB.out.keep G25.out)).mono ?_
  rintro e w26 ⟨rfl, xx, hg⟩
  have O_26 := hid (own_gr O_25.out hg); clear O_25
  have M_26 := hid (M_25.out.keep hg); clear M_25
  have XB_26 := hid (hg.keep XB_25.out); clear XB_25
  have FB_26 := hid (hg.keep FB_25.out); clear FB_25
  have G26 := hid (G25.out.trans hg)
  have z26 : w25.heap.size ≤ w26.heap.size := hg.size
  have YB_26 := hid (xx)
  clear hg xx
  have yYB : w25.heap.size < w26.heap.size := ltb YB_26.out
  go_wp2_with fail
  refine (HI.out _ _ _ _ _ _ _ (hid (RdRq.of_block XB_26.out)) (hid (RdF.of_block FB_26.out)) (hid (RdI.of_block YB_26.out))).mono ?_
  rintro e w27 ⟨Ah, ch2, rfl, xx, hg⟩
  have O_27 := hid (own_gr O_26.out hg); clear O_26
  have M_27 := hid (M_26.out.keep hg); clear M_26
  have XB_27 := hid (hg.keep XB_26.out); clear XB_26
  have FB_27 := hid (hg.keep FB_26.out); clear FB_26
  have YB_27 := hid (hg.keep YB_26.out); clear YB_26
  have G27 := hid (G26.out.trans hg)
  have z27 : w26.heap.size ≤ w27.heap.size := hg.size
  have Q_27 := hid (xx)
  clear hg xx
  clear XB_27 FB_27 YB_27
  go_wp2_with fail
  refine (eqInt64S_any _ _ _ _ ys _ (hid (RdI.of_own Q_27.out)) (hid (RdI.of_own O_27.out)) hys).mono ?_
  rintro e w28 ⟨rfl, hg⟩
  have O_28 := hid (own_gr O_27.out hg); clear O_27
  have M_28 := hid (M_27.out.keep hg); clear M_27
  have Q_28 := hid (own_gr Q_27.out hg); clear Q_27
  have G28 := hid (G27.out.trans hg)
  have z28 : w27.heap.size ≤ w28.heap.size := hg.size
  clear hg
  go_wp2_with fail
  refine (heldInt64S_any _ _ _ _ _ M_28 hys (by omega) (by omega)).mono ?_
  rintro e w29 ⟨rfl, hg⟩
  have O_29 := hid (own_gr O_28.out hg); clear O_28
  have M_29 := hid (M_28.out.keep hg); clear M_28
  have Q_29 := hid (own_gr Q_28.out hg); clear Q_28
  have G29 := hid (G28.out.trans hg)
  have z29 : w28.heap.size ≤ w29.heap.size := hg.size
  clear hg
  go_wp2_with fail
  go_ret
  exact ⟨rfl, G29.out⟩
set_option maxRecDepth 20000 in
set_option maxHeartbeats 400000 in
theorem lawWhoRead_big (A B F : Option Addr) (cap capB m l capF : Nat) (xs : List Rqv) (w : World) (hr : RawRq w (.slice A xs.length cap) xs) (hm : m ≤ 1048576) (hmax : xs.length ≤ 9223372036854775807) (hz : ∀ x ∈ xs, x.nm.size ≤ 9223372036854775807) (hq : szToR xs 1048576 = -1) :
    Calls Try.prog 5 #[.slice A xs.length cap, .slice F l capF, .slice B m capB] w fun e w' => e = .returned (.bool true) ∧ Gr w w' := by
  have HSZ := hid fun (w : World) (h : RawRq w (.slice A xs.length cap) xs) => szRq_is _ A cap xs 1048576 (-1) w rfl h hmax hz (by omega) (by omega) hq
  have HR := hid hr
  clear hz hq hmax hr
  go_enter Try.func5, Try.ntmps5
  go_wp2_with fail
  refine (HSZ.out _ HR.out).mono ?_
  rintro e w1 ⟨rfl, hg1⟩
  have G1 := hid hg1; clear hg1
  go_wp2_with fail
  go_ret
  exact ⟨rfl, G1.out⟩
set_option maxRecDepth 20000 in
set_option maxHeartbeats 400000 in
theorem lawWhoRead_big1 (A B F : Option Addr) (cap capB m l capF : Nat) (xs : List Rqv) (q0 : Int) (w : World) (hr : RawRq w (.slice A xs.length cap) xs) (hm : m ≤ 1048576) (hmax : xs.length ≤ 9223372036854775807) (hz : ∀ x ∈ xs, x.nm.size ≤ 9223372036854775807) (hq : szToR xs 1048576 = q0) (hp : 0 ≤ q0) (hq1 : q0 ≤ 1048576) (hl : q0 < (l : Int)) (hl2 : l ≤ 9223372036854775807) :
    Calls Try.prog 5 #[.slice A xs.length cap, .slice F l capF, .slice B m capB] w fun e w' => e = .returned (.bool true) ∧ Gr w w' := by
  have HSZ := hid fun (w : World) (h : RawRq w (.slice A xs.length cap) xs) => szRq_is _ A cap xs 1048576 q0 w rfl h hmax hz (by omega) (by omega) hq
  have HSF := hid fun (w : World) => szWr_no F l capF q0 w hl hl2 hp hq1
  have HR := hid hr
  clear hz hq hmax hr hl
  go_enter Try.func5, Try.ntmps5
  go_wp2_with fail
  refine (HSZ.out _ HR.out).mono ?_
  rintro e w1 ⟨rfl, hg1⟩
  have G1 := hid hg1; clear hg1
  go_wp2_with fail
  refine (HSF.out _).mono ?_
  rintro e w2 ⟨rfl, hg2⟩
  have G2 := hid (G1.out.trans hg2); clear hg2
  go_wp2_with fail
  go_ret
  exact ⟨rfl, G2.out⟩
set_option maxRecDepth 20000 in
set_option maxHeartbeats 400000 in
theorem lawWhoRead_big2 (A B F : Option Addr) (n cap m capB l capF : Nat) (w : World) (h : 1048576 < m) (h2 : m ≤ 9223372036854775807) :
    Calls Try.prog 5 #[.slice A n cap, .slice F l capF, .slice B m capB] w fun e w' => e = .returned (.bool true) ∧ Gr w w' := by
  go_enter Try.func5, Try.ntmps5
  go_wp2
  go_ret
  exact ⟨rfl, Gr.refl _⟩
open Go.ChangeShapes Go.WideShapes Go.ChangeAt Go.Joins
theorem laidOutWhoRead : laidOutB Try.prog = true := by as_aux_lemma => kernel_rfl
set_option maxRecDepth 100000 in
theorem liftedWhoRead (os : Os) (started : os.Started) (H : Type) (enc : TypeId × Value → H) :
    ReturnsInHanded {} Try.checked os 5 .any (Rows.fnExactWhoReadSpec.pre6 enc Try.prog Try.f5 Rows.fnExactWhoReadRow.domain false) (Rows.fnExactWhoReadSpec.post enc Try.prog Try.f5 false true false false) := by
  refine returnsInHanded_of_change (C := Try.checked) ownNone started (by kernel_rfl) Try.func5
    (ChangeSpec.witness6 (enc := enc) (C := Try.checked) false ⟨#[], #[.slice none 0 0, .slice none 0 0, .slice none 0 0], []⟩ 8 (by kernel_rfl) (by kernel_rfl) (by kernel_rfl) (by kernel_rfl)) ?_
  intro W base args ds gs before hval0 hW _ _
  have hval : ∀ (j : Nat) t v, Try.f5.params[j]? = some t → args[j]? = some v → Value.okWide Try.prog W .any base t v := hval0
  have hW' := hW
  obtain ⟨p, q, hA0, hV, rfl, _, _⟩ := hW
  have hA : DataW.TrodAll enc Try.prog W 0 (fun _ => true) true Try.f5.params.toList args.toList ds p := hA0
  rw [Try.params5] at hA hval
  obtain ⟨u0, u1, u2, d0, d1, d2, p0, p1, p2, rfl, rfl, rfl, h0, h1, h2⟩ := trodAll_three hA
  obtain ⟨rfl, rfl⟩ := trodVars_none hV
  clear hA0 hval0
  simp only [List.append_nil] at hW'
  have hlt : ∀ x ∈ p0 ++ (p1 ++ p2), x.block < W.heap.size := fun x hx => by simpa using hW'.lt x (by simpa using hx)
  have done : ∀ (e : Ending) (W' : World), e = .returned (.bool true) ∧ Gr W W' → ∃ v, e = .returned v ∧ Rows.fnExactWhoReadSpec.post enc Try.prog Try.f5 false true false false W #[u0, u1, u2] v W' := fun e W' ⟨he, hg⟩ => by
    subst he
    exact ⟨_, rfl, _, _, _, [], _, [], hW', trodAll_mk1 (shut_bool Try.underlying4 _), trodAll_mk3 (Below.trod laidOutWhoRead (by kernel_rfl) (of_decide_eq_true (by kernel_rfl)) h0 hg.below (fun x hx => hlt x (by simp [hx]))) (Below.trod laidOutWhoRead (by kernel_rfl) (of_decide_eq_true (by kernel_rfl)) h1 hg.below (fun x hx => hlt x (by simp [hx]))) (Below.trod laidOutWhoRead (by kernel_rfl) (of_decide_eq_true (by kernel_rfl)) h2 hg.below (fun x hx => hlt x (by simp [hx]))), rfl, hg.below.frame _, fun h => by cases h⟩
  obtain ⟨A, m, cap, rfl⟩ := okWide_slice Try.underlying49 (hval 0 49 u0 rfl rfl)
  obtain ⟨F, k, capF, rfl⟩ := okWide_slice Try.underlying27 (hval 1 27 u1 rfl rfl)
  obtain ⟨B, l, capB, rfl⟩ := okWide_slice Try.underlying42 (hval 2 42 u2 rfl rfl)
  obtain ⟨hmax, xs, rfl, hraw, hs⟩ := open_rdrs h0
  obtain ⟨hmaxF, fs, rfl, hrawF⟩ := open_fracs h1
  obtain ⟨hmaxB, ns, rfl, hrawB⟩ := open_rawI h2
  have hz : ∀ x ∈ xs, x.nm.size ≤ 9223372036854775807 := fun x hx => by have := (hs x hx).1; unfold maxLen at this; omega
  have hwf : xs.all wfR = true := List.all_eq_true.2 fun x hx => (hs x hx).2
  by_cases hm : ns.length ≤ 1048576
  · obtain ⟨q0, hq0⟩ : ∃ q, szToR xs 1048576 = q := ⟨_, rfl⟩
    obtain ⟨b0, b1, b2⟩ := szToR_bd xs 1048576 q0 (by omega) hq0
    by_cases hp : 0 ≤ q0
    · have hn : xs.length ≤ 1048576 := by have := b2 hp; omega
      by_cases hf : (fs.length : Int) ≤ q0
      · obtain ⟨ys, C, hys, hS, hI⟩ := bothWhoRead xs fs ns hn (by omega) hm hwf
        exact (lawWhoRead A B F cap capB capF xs fs ns ys C q0 W hraw hrawF hrawB hn (by omega) hm hys hmax hz hq0 hp b1 hf hS hI).mono done
      · exact (lawWhoRead_big1 A B F cap capB ns.length fs.length capF xs q0 W hraw hm hmax hz hq0 hp b1 (by omega) hmaxF).mono done
    · exact (lawWhoRead_big A B F cap capB ns.length fs.length capF xs W hraw hm hmax hz (by omega)).mono done
  · exact (lawWhoRead_big2 A B F xs.length cap ns.length capB fs.length capF W (by omega) hmaxB).mono done

set_option maxHeartbeats 2000000 in
theorem closedWhoRead : joinedFacts Try.pinned.checked.prog 5 Try.f5 Rows.fnExactWhoReadSpec Rows.fnExactWhoReadRow = true := by
  unfold joinedFacts
  refine Bool.and_eq_true_iff.2 ⟨?_, by as_aux_lemma => kernel_rfl⟩
  refine Bool.and_eq_true_iff.2 ⟨?_, by as_aux_lemma => kernel_rfl⟩
  refine Bool.and_eq_true_iff.2 ⟨?_, by as_aux_lemma => kernel_rfl⟩
  refine Bool.and_eq_true_iff.2 ⟨?_, by as_aux_lemma => kernel_rfl⟩
  refine Bool.and_eq_true_iff.2 ⟨?_, by rw [fact_make]; rfl⟩
  refine Bool.and_eq_true_iff.2 ⟨?_, by rw [fact_final]; rfl⟩
  refine Bool.and_eq_true_iff.2 ⟨?_, fact_enters⟩
  refine Bool.and_eq_true_iff.2 ⟨?_, by as_aux_lemma => kernel_rfl⟩
  refine Bool.and_eq_true_iff.2 ⟨?_, by as_aux_lemma => kernel_rfl⟩
  refine Bool.and_eq_true_iff.2 ⟨?_, by as_aux_lemma => kernel_rfl⟩
  refine Bool.and_eq_true_iff.2 ⟨?_, by as_aux_lemma => kernel_rfl⟩
  refine Bool.and_eq_true_iff.2 ⟨?_, by as_aux_lemma => kernel_rfl⟩
  refine Bool.and_eq_true_iff.2 ⟨?_, by as_aux_lemma => kernel_rfl⟩
  refine Bool.and_eq_true_iff.2 ⟨?_, by as_aux_lemma => kernel_rfl⟩
  refine Bool.and_eq_true_iff.2 ⟨?_, by as_aux_lemma => kernel_rfl⟩
  refine Bool.and_eq_true_iff.2 ⟨?_, by as_aux_lemma => kernel_rfl⟩
  refine Bool.and_eq_true_iff.2 ⟨?_, by as_aux_lemma => kernel_rfl⟩
  refine Bool.and_eq_true_iff.2 ⟨?_, by as_aux_lemma => kernel_rfl⟩
  refine Bool.and_eq_true_iff.2 ⟨?_, by as_aux_lemma => kernel_rfl⟩
  refine Bool.and_eq_true_iff.2 ⟨?_, by as_aux_lemma => kernel_rfl⟩
  refine Bool.and_eq_true_iff.2 ⟨?_, by as_aux_lemma => kernel_rfl⟩
  refine Bool.and_eq_true_iff.2 ⟨?_, by as_aux_lemma => kernel_rfl⟩
  refine Bool.and_eq_true_iff.2 ⟨?_, by as_aux_lemma => kernel_rfl⟩
  refine Bool.and_eq_true_iff.2 ⟨?_, by as_aux_lemma => kernel_rfl⟩
  refine Bool.and_eq_true_iff.2 ⟨?_, by as_aux_lemma => kernel_rfl⟩
  refine Bool.and_eq_true_iff.2 ⟨?_, by as_aux_lemma => kernel_rfl⟩
  refine Bool.and_eq_true_iff.2 ⟨?_, by as_aux_lemma => kernel_rfl⟩
  refine Bool.and_eq_true_iff.2 ⟨?_, by as_aux_lemma => kernel_rfl⟩
  refine Bool.and_eq_true_iff.2 ⟨?_, by as_aux_lemma => kernel_rfl⟩
  refine Bool.and_eq_true_iff.2 ⟨?_, by as_aux_lemma => kernel_rfl⟩
  as_aux_lemma => kernel_rfl
theorem whoRead_holds : Rows.FnExactWhoReadSaid :=
  OpenClaim.holds_of_wide 5 Try.f5 rfl rfl rfl rfl rfl rfl rfl ⟨rfl, rfl, rfl, rfl, rfl⟩ rfl rfl rfl rfl rfl (by as_aux_lemma => kernel_rfl) Try.func5 closedWhoRead
    (of_decide_eq_true (by as_aux_lemma => kernel_rfl)) (by unfold Func.isWrapper; rw [if_neg (by decide +kernel)]; exact ⟨rfl, rfl⟩)
    (fun os started H enc _ => liftedWhoRead os started H enc)
#print axioms whoRead_holds
end Go.Proofs.Ytpadjkgbeijkpaa
