/- The law FnExactErrorsFrom of the laws package returns true for all fractions and every slice of fractions, valid or not; they read behind the call as before it. No condition. -/
import Derived.Test.YtnbdafecgccojaaRows
import Derived.Test.YtnbdafecgccojaaEh
import Derived.Test.YtnbdafecgccojaaMk
import Derived.Test.YtnbdafecgccojaaRs
import Derived.Test.YtnbdafecgccojaaFacts
import Derived.ProofKit
import Derived.Carry
import Derived.Lib.SmallJoins
namespace Go.Proofs.Ytnbdafecgccojaa
open Go.RowKit Go.Sort

set_option maxRecDepth 20000 in
set_option maxHeartbeats 4000000 in
theorem lawErrorsFrom (a b p q : Int) (A : Option Addr) (cap : Nat) (xs : List (Int × Int)) (u v : Int) (ys : List (Int × Int)) (C : Int) (w : World) (hr : RawF w (.slice A xs.length cap) xs) (hn : xs.length ≤ 1048576) (hys : ys.length ≤ 1048576)
    (hs : ∀ (A : Option Addr) (c : Nat) (w : World), Hid (RdF w A xs) → Calls Try.prog 24 #[fr a b, fr p q, .slice A xs.length c] w fun e w' => GivesS w w' e u v ys C)
    (hi : ∀ (A : Option Addr) (c : Nat) (w : World), Hid (RdF w A xs) → Calls Try.prog 26 #[fr a b, fr p q, .slice A xs.length c] w fun e w' => GivesS w w' e u v ys C) :
    Calls Try.prog 4 #[fr a b, fr p q, .slice A xs.length cap] w fun x w' => x = .returned (.bool true) ∧ Gr w w' := by
  have HS := hid hs; have HI := hid hi; have HR := hid hr
  have HSZ := hid fun (w : World) => (szF A xs.length cap 1048576 w (by omega) (by omega) (by omega)).mono (R' := fun e w' => e = .returned (.int .i64 (1048576 - (xs.length : Int))) ∧ Gr w w') fun e w' h => ⟨by rw [h.1, if_pos (by omega)], h.2⟩
  clear hs hi hr
  go_enter Try.func4, Try.ntmps4
  go_wp2_with fail
  refine (HSZ.out _).mono ?_
  rintro e w1 ⟨rfl, hg1⟩
  obtain ⟨x1_0, x1_1, hz1, g1⟩ := alloc2 hg1
  obtain ⟨_, _⟩ := cells2 x1_0
  have _ := fz x1_0
  have _ := ltb x1_0
  obtain ⟨_, _⟩ := cells2 x1_1
  have _ := fz x1_1
  have _ := ltb x1_1
  have X1_0 := hid x1_0; clear x1_0
  have X1_1 := hid x1_1; clear x1_1
  have G1 := hid (g1)
  clear hg1 g1
  go_wp2_with fail
  refine wp_regL2s (T := 37) (fun g : Nat => .slice (some ⟨g, 0, none⟩) xs.length xs.length) (fun g w => w.heap[g]? = some (.cells (flatA xs) 30)) (fun ε : Option Addr × Nat => .tuple #[scl u v ε.1 ys.length ε.2, .int .i64 C]) (fun ε w => w.ownsRow w1.heap.size 30 2 (.slice ε.1 ys.length ε.2) ys.length (flatL ys)) #[.int .i64 0, .int .i64 0, .slice none 0 0] 12 5 29 6 30 10 8 11 31 [0, 0, 0, 0, 0, 0, 1, 2, 2, 2, 0, 2] [5, 6, 7, 8, 9, 10, 11] [0, 1, 2, 3, 4, 5, 6, 7, 8, 9, 10, 11] [0, 1, 2, 3, 4, 5, 6, 10, 11] (by kernel_rfl) (by kernel_rfl) (by kernel_rfl) rfl rfl (by decide) rfl rfl (by simp) rfl rfl (by decide) (fun _ _ => by kernel_rfl) (by kernel_rfl) (fun g g' h => by simpa using h) (fun g w w' h hg => hg.keep h) (fun g w w' b h hb hs => row_other h hb (by decide) hs) (fun ε ε' h => by obtain ⟨A1, c1⟩ := ε; obtain ⟨A2, c2⟩ := ε'; simpa using h) (fun ε w w' h hg => own_gr h hg) (fun ε w w' b h hb hs => own_other h hb (by decide) hs) ?_
  apply Exists.intro; apply Exists.intro; apply Exists.intro; apply Exists.intro
  refine ⟨fun wb hb => ?_, fun o ho wb hb => ?_, fun g wb hb hg => ?_, fun o ho g wb hb hg => ?_, fun g ε wb hb hg ho => ?_, fun g ε => ?_, fun ε => ?_, fun g2 ε2 w2 b2 hg2 _ o2 hb2 v2 => ?_⟩
  · obtain ⟨_, _⟩ := hb.at2 X1_0.out
    obtain ⟨_, _⟩ := hb.at2 X1_1.out
    simp only [headOps, List.contains, List.elem, Nat.reduceAdd, Nat.reduceBEq, reduceIte, Bool.false_eq_true, dumOp]
    repeat (first | go_big_quiet_step (first | (go_at_call 19; exact Calls.of_gr (toFrac_any _ _ _))) | quiet_step (fail))
    exact wpQuiet_nil rfl
  · cases ho
    exact ⟨_, _, by kernel_rfl, (toFracS_any _ xs wb hn (HR.out.keep (G1.out.trans hb))).mono fun e w' h => ⟨_, h.1, h.2.1, h.2.2⟩⟩
  · simp only [headOps, List.contains, List.elem, Nat.reduceAdd, Nat.reduceBEq, reduceIte, dumOp]
    repeat (first | go_big_quiet_step (first | fail) | quiet_step (fail))
    exact wpQuiet_nil rfl
  · cases ho
    exact ⟨_, _, by kernel_rfl, (HS.out _ xs.length _ (hid (RdF.of_block hg))).mono fun e w' ⟨A', c', he, ho, hg'⟩ => ⟨(A', c'), he, own_base ho hb.size, hg'⟩⟩
  · simp only [headOps, List.contains, List.elem, Nat.reduceAdd, Nat.reduceBEq, reduceIte, Bool.false_eq_true, dumOp]
    repeat (first | go_big_quiet_step (first | (fail)) | quiet_step (fail))
    exact wpQuiet_nil rfl
  · exact ⟨rfl, rfl⟩
  · exact ⟨rfl, by simp [Value.oneCell']⟩
  simp only [List.drop_succ_cons, List.drop_zero]
  have L2 := hid (own_lt o2); have O2 := hid o2; have V2 := hid v2; have G2 := hid (G1.out.trans hg2); have BA2 := hid (hg2.keep X1_0.out); have BB2 := hid (hg2.keep X1_1.out)
  have Z2 := hid (ltb v2); have HW2 := hid hg2.size
  clear hg2 o2 v2 hb2
  go_wp2_with fail
  refine (toFracS_any _ xs _ hn (HR.out.keep G2.out)).mono ?_
  rintro e w3 ⟨rfl, x3, hg3⟩
  have X3 := hid x3; have Z3 := hid (ltb x3); have O3 := hid (own_gr O2.out hg3); have V3 := hid (hg3.keep V2.out); have G3 := hid (G2.out.trans hg3); have BA3 := hid (hg3.keep BA2.out); have BB3 := hid (hg3.keep BB2.out)
  clear x3 hg3 O2 V2 BA2 BB2
  go_wp2_with fail
  refine wp_regL1s (T := 37) (fun ε : Option Addr × Nat => .tuple #[scl u v ε.1 ys.length ε.2, .int .i64 C]) (fun ε w => w.ownsRow w3.heap.size 30 2 (.slice ε.1 ys.length ε.2) ys.length (flatL ys)) #[.int .i64 0, .int .i64 0, .slice none 0 0] 11 5 41 9 11 10 42 [0, 0, 0, 0, 0, 0, 1, 1, 1, 0, 1] [5, 6, 7, 8, 9, 10] [0, 1, 2, 3, 4, 5, 9, 10] (by kernel_rfl) (by kernel_rfl) (by kernel_rfl) rfl (by decide) rfl rfl (by simp) rfl rfl (by decide) (fun _ _ => by kernel_rfl) (by kernel_rfl) (fun ε ε' h => by obtain ⟨A1, c1⟩ := ε; obtain ⟨A2, c2⟩ := ε'; simpa using h) (fun ε w w' h hg => own_gr h hg) (fun ε w w' b h hb hs => own_other h hb (by decide) hs) ?_
  apply Exists.intro; apply Exists.intro; apply Exists.intro
  refine ⟨fun wb hb => ?_, fun o ho wb hb => ?_, fun ε wb hb ho => ?_, fun ε => ?_, fun ε => ?_, fun ε5 w5 b5 hg5 o5 hb5 v5 => ?_⟩
  · obtain ⟨_, _⟩ := hb.at2 BA3.out
    obtain ⟨_, _⟩ := hb.at2 BB3.out
    simp only [headOps, List.contains, List.elem, Nat.reduceAdd, Nat.reduceBEq, reduceIte, Bool.false_eq_true, dumOp]
    repeat (first | go_big_quiet_step (first | (go_at_call 19; exact Calls.of_gr (toFrac_any _ _ _))) | quiet_step (fail))
    exact wpQuiet_nil rfl
  · cases ho
    exact ⟨_, _, by kernel_rfl, (HI.out _ xs.length _ (hid (RdF.of_block (hb.keep X3.out)))).mono fun e w' ⟨A', c', he, ho, hg'⟩ => ⟨(A', c'), he, own_base ho hb.size, hg'⟩⟩
  · simp only [headOps, List.contains, List.elem, Nat.reduceAdd, Nat.reduceBEq, reduceIte, Bool.false_eq_true, dumOp]
    repeat (first | go_big_quiet_step (first | (fail)) | quiet_step (fail))
    exact wpQuiet_nil rfl
  · exact ⟨rfl, rfl⟩
  · exact ⟨rfl, by simp [Value.oneCell']⟩
  simp only [List.drop_succ_cons, List.drop_zero]
  have LG := hid (own_lt o5); have OG5 := hid o5; have P5 := hid v5; have H5 := hid hb5; have O5 := hid (own_gr O3.out hg5); have V5 := hid (hg5.keep V3.out); have X5 := hid (hg5.keep X3.out); have G5 := hid (G3.out.trans hg5); have BA5 := hid (hg5.keep BA3.out); have BB5 := hid (hg5.keep BB3.out)
  clear o5 v5 hb5 hg5 O3 V3 X3 BA3 BB3
  obtain ⟨_, _, _⟩ := cells3 V5.out
  obtain ⟨_, _, _⟩ := cells3 P5.out
  go_wp2_with fail
  refine (eqSc_any _ _ _ _ _ _ ys _ (hid (RdF.of_ownF OG5.out)) (hid (RdF.of_ownF O5.out)) hys).mono ?_
  rintro e w6 ⟨rfl, hg6⟩
  have OG6 := hid (own_gr OG5.out hg6); have O6 := hid (own_gr O5.out hg6); have X6 := hid (hg6.keep X5.out); have V6 := hid (hg6.keep V5.out); have P6 := hid (hg6.keep P5.out); have G6 := hid (G5.out.trans hg6); have BA6 := hid (hg6.keep BA5.out); have BB6 := hid (hg6.keep BB5.out)
  clear hg6 OG5 O5 X5 V5 P5 BA5 BB5
  go_wp2_with fail
  refine (toFracS_any _ xs _ hn (HR.out.keep G6.out)).mono ?_
  rintro e w7 ⟨rfl, x7, hg7⟩
  have Y7 := hid x7; have OG7 := hid (own_gr OG6.out hg7); have O7 := hid (own_gr O6.out hg7); have X7 := hid (hg7.keep X6.out); have V7 := hid (hg7.keep V6.out); have P7 := hid (hg7.keep P6.out); have G7 := hid (G6.out.trans hg7); have BA7 := hid (hg7.keep BA6.out); have BB7 := hid (hg7.keep BB6.out)
  clear x7 hg7 OG6 O6 X6 V6 P6 BA6 BB6
  go_wp2_with fail
  refine (eqF_any _ _ _ _ xs _ (hid (RdF.of_block X7.out)) (hid (RdF.of_block Y7.out)) hn).mono ?_
  rintro e w8 ⟨rfl, hg8⟩
  have OG8 := hid (own_gr OG7.out hg8); have O8 := hid (own_gr O7.out hg8); have X8 := hid (hg8.keep X7.out); have V8 := hid (hg8.keep V7.out); have P8 := hid (hg8.keep P7.out); have G8 := hid (G7.out.trans hg8); have BA8 := hid (hg8.keep BA7.out); have BB8 := hid (hg8.keep BB7.out)
  clear hg8 OG7 O7 X7 V7 P7 BA7 BB7 Y7
  go_wp2_with fail
  refine (markF_any w2.heap.size xs.length xs.length 1 (flatA xs) _ _ X8 (by unfold flatA; simp [flatL_len]) hn (by omega) (by omega)).mono ?_
  rintro e w9 ⟨rfl, _, on9⟩
  have OG9 := hid (own_only OG8.out on9 (fun ad he => Nat.ne_of_gt (Nat.lt_of_lt_of_le Z3.out (LG.out ad he).1)))
  have R9 := hid ((RdF.of_ownF O8.out).only on9 (fun ad he => Nat.ne_of_lt (L2.out ad he).2))
  have V9 := hid (on9.1 _ _ (Nat.ne_of_lt Z2.out) V8.out)
  have P9 := hid (on9.1 _ _ (Nat.ne_of_gt (Nat.lt_of_lt_of_le Z3.out H5.out)) P8.out)
  have BA9 := hid (on9.1 _ _ (Nat.ne_of_lt (Nat.lt_of_lt_of_le (ltb X1_0.out) HW2.out)) BA8.out)
  have BB9 := hid (on9.1 _ _ (Nat.ne_of_lt (Nat.lt_of_lt_of_le (ltb X1_1.out) HW2.out)) BB8.out)
  have G9 := hid (on9.2 w G8.out G2.out.size)
  clear on9 OG8 O8 X8 V8 P8 BA8 BB8
  obtain ⟨_, _, _⟩ := cells3 V9.out
  obtain ⟨_, _, _⟩ := cells3 P9.out
  go_wp2_with fail
  refine (eqSc_any _ _ _ _ _ _ ys _ (hid (RdF.of_ownF OG9.out)) R9 hys).mono ?_
  rintro e w10 ⟨rfl, g10⟩
  have OG10 := hid (own_gr OG9.out g10); have R10 := hid (R9.out.keep g10); have V10 := hid (g10.keep V9.out); have P10 := hid (g10.keep P9.out); have BA10 := hid (g10.keep BA9.out); have BB10 := hid (g10.keep BB9.out); have G10 := hid (G9.out.trans g10)
  clear g10 OG9 R9 V9 P9 BA9 BB9
  obtain ⟨_, _, _⟩ := cells3 P10.out
  go_wp2_with fail
  refine (markOwnSc2 _ _ _ _ _ _ _ 1 _ OG10 hys (by omega) (by omega)).mono ?_
  rintro e w11 ⟨rfl, ⟨gg, hgg, on11⟩, m11, ot11⟩
  have M11 := hid m11
  have R11 := hid (R10.out.only on11 (fun ad he => Nat.ne_of_lt (Nat.lt_of_lt_of_le (Nat.lt_trans (L2.out ad he).2 Z3.out) hgg)))
  have V11 := hid (ot11 _ _ _ (by decide) V10.out)
  have P11 := hid (ot11 _ _ _ (by decide) P10.out)
  have BA11 := hid (ot11 _ _ _ (by decide) BA10.out)
  have BB11 := hid (ot11 _ _ _ (by decide) BB10.out)
  have G11 := hid (on11.2 w G10.out (Nat.le_trans G3.out.size hgg))
  clear on11 m11 ot11 OG10 R10 V10 P10 BA10 BB10
  obtain ⟨_, _, _⟩ := cells3 P11.out
  go_wp2_with fail
  refine (heldSc_any _ _ _ _ _ _ _ M11 hys (by omega) (by omega)).mono ?_
  rintro e w12 ⟨rfl, g12⟩
  have M12 := hid (M11.out.keep g12); have R12 := hid (R11.out.keep g12); have V12 := hid (g12.keep V11.out); have P12 := hid (g12.keep P11.out); have BA12 := hid (g12.keep BA11.out); have BB12 := hid (g12.keep BB11.out); have G12 := hid (G11.out.trans g12)
  clear g12 M11 R11 V11 P11 BA11 BB11
  go_wp2_with fail
  refine wp_regL2s (T := 37) (fun g : Nat => .slice (some ⟨g, 0, none⟩) xs.length xs.length) (fun g w => w.heap[g]? = some (.cells (flatA xs) 30)) (fun ε : Option Addr × Nat => .tuple #[scl u v ε.1 ys.length ε.2, .int .i64 C]) (fun ε w => w.ownsRow w12.heap.size 30 2 (.slice ε.1 ys.length ε.2) ys.length (flatL ys)) #[.int .i64 0, .int .i64 0, .slice none 0 0] 12 5 91 6 92 10 16 11 93 [0, 0, 0, 0, 0, 0, 1, 2, 2, 2, 0, 2] [5, 6, 7, 8, 9, 10, 11] [0, 1, 2, 3, 4, 5, 6, 7, 8, 9, 10, 11] [0, 1, 2, 3, 4, 5, 6, 10, 11] (by kernel_rfl) (by kernel_rfl) (by kernel_rfl) rfl rfl (by decide) rfl rfl (by simp) rfl rfl (by decide) (fun _ _ => by kernel_rfl) (by kernel_rfl) (fun g g' h => by simpa using h) (fun g w w' h hg => hg.keep h) (fun g w w' b h hb hs => row_other h hb (by decide) hs) (fun ε ε' h => by obtain ⟨A1, c1⟩ := ε; obtain ⟨A2, c2⟩ := ε'; simpa using h) (fun ε w w' h hg => own_gr h hg) (fun ε w w' b h hb hs => own_other h hb (by decide) hs) ?_
  apply Exists.intro; apply Exists.intro; apply Exists.intro; apply Exists.intro
  refine ⟨fun wb hb => ?_, fun o ho wb hb => ?_, fun g wb hb hg => ?_, fun o ho g wb hb hg => ?_, fun g ε wb hb hg ho => ?_, fun g ε => ?_, fun ε => ?_, fun g13 ε13 w13 b13 hg13 _ o13 _ v13 => ?_⟩
  · obtain ⟨_, _⟩ := hb.at2 BA12.out
    obtain ⟨_, _⟩ := hb.at2 BB12.out
    simp only [headOps, List.contains, List.elem, Nat.reduceAdd, Nat.reduceBEq, reduceIte, Bool.false_eq_true, dumOp]
    repeat (first | go_big_quiet_step (first | (go_at_call 19; exact Calls.of_gr (toFrac_any _ _ _))) | quiet_step (fail))
    exact wpQuiet_nil rfl
  · cases ho
    exact ⟨_, _, by kernel_rfl, (toFracS_any _ xs wb hn (HR.out.keep (G12.out.trans hb))).mono fun e w' h => ⟨_, h.1, h.2.1, h.2.2⟩⟩
  · simp only [headOps, List.contains, List.elem, Nat.reduceAdd, Nat.reduceBEq, reduceIte, dumOp]
    repeat (first | go_big_quiet_step (first | fail) | quiet_step (fail))
    exact wpQuiet_nil rfl
  · cases ho
    exact ⟨_, _, by kernel_rfl, (HI.out _ xs.length _ (hid (RdF.of_block hg))).mono fun e w' ⟨A', c', he, ho, hg'⟩ => ⟨(A', c'), he, own_base ho hb.size, hg'⟩⟩
  · simp only [headOps, List.contains, List.elem, Nat.reduceAdd, Nat.reduceBEq, reduceIte, Bool.false_eq_true, dumOp]
    repeat (first | go_big_quiet_step (first | (fail)) | quiet_step (fail))
    exact wpQuiet_nil rfl
  · exact ⟨rfl, rfl⟩
  · exact ⟨rfl, by simp [Value.oneCell']⟩
  simp only [List.drop_succ_cons, List.drop_zero]
  have RH := hid (RdF.of_ownF o13); have V13 := hid v13; have M13 := hid (M12.out.keep hg13); have R13 := hid (R12.out.keep hg13); have W13 := hid (hg13.keep V12.out); have P13 := hid (hg13.keep P12.out); have G13 := hid (G12.out.trans hg13)
  clear o13 v13 hg13 M12 R12 V12 P12 BA12 BB12
  obtain ⟨_, _, _⟩ := cells3 V13.out
  obtain ⟨_, _, _⟩ := cells3 W13.out
  obtain ⟨_, _, _⟩ := cells3 P13.out
  go_wp2_with fail
  refine (eqSc_any _ _ _ _ _ _ ys _ RH R13 hys).mono ?_
  rintro e w14 ⟨rfl, g14⟩
  have M14 := hid (M13.out.keep g14); have P14 := hid (g14.keep P13.out); have G14 := hid (G13.out.trans g14); clear g14 M13 R13 RH P13
  obtain ⟨_, _, _⟩ := cells3 P14.out
  go_wp2_with fail
  refine (heldSc_any _ _ _ _ _ _ _ M14 hys (by omega) (by omega)).mono ?_
  rintro e w15 ⟨rfl, g15⟩
  have G15 := hid (G14.out.trans g15); clear g15 M14
  go_wp2_with fail
  go_ret
  exact ⟨rfl, G15.out⟩
set_option maxRecDepth 20000 in
set_option maxHeartbeats 400000 in
theorem lawErrorsFrom_big (a b p q : Int) (A : Option Addr) (n cap : Nat) (w : World) (h : 1048576 < n) (h2 : n ≤ 9223372036854775807) :
    Calls Try.prog 4 #[fr a b, fr p q, .slice A n cap] w fun e w' => e = .returned (.bool true) ∧ Gr w w' := by
  have HSZ := hid fun (w : World) => (szF A n cap 1048576 w h2 (by omega) (by omega)).mono (R' := fun e w' => e = .returned (.int .i64 (-1)) ∧ Gr w w') fun e w' h => ⟨by rw [h.1, if_neg (by omega)], h.2⟩
  go_enter Try.func4, Try.ntmps4
  go_wp2_with fail
  refine (HSZ.out _).mono ?_
  rintro e w1 ⟨rfl, hg1⟩
  obtain ⟨x1_0, x1_1, hz1, g1⟩ := alloc2 hg1
  obtain ⟨_, _⟩ := cells2 x1_0
  have _ := fz x1_0
  have _ := ltb x1_0
  obtain ⟨_, _⟩ := cells2 x1_1
  have _ := fz x1_1
  have _ := ltb x1_1
  have X1_0 := hid x1_0; clear x1_0
  have X1_1 := hid x1_1; clear x1_1
  have G1 := hid (g1)
  clear hg1 g1
  go_wp2
  go_ret
  exact ⟨rfl, G1.out⟩
open Go.ChangeShapes Go.WideShapes Go.ChangeAt Go.Joins
theorem laidOutErrorsFrom : laidOutB Try.prog = true := by as_aux_lemma => kernel_rfl
set_option maxRecDepth 100000 in
theorem liftedErrorsFrom (os : Os) (started : os.Started) (H : Type) (enc : TypeId × Value → H) :
    ReturnsInHanded {} Try.checked os 4 .any (Rows.fnExactErrorsFromSpec.pre6 enc Try.prog Try.f4 Rows.fnExactErrorsFromRow.domain false) (Rows.fnExactErrorsFromSpec.post enc Try.prog Try.f4 false true false false) := by
  refine returnsInHanded_of_change (C := Try.checked) ownNone started (by kernel_rfl) Try.func4
    (ChangeSpec.witness6 (enc := enc) (C := Try.checked) false ⟨#[], #[.agg #[.int .i64 0, .int .i64 0], .agg #[.int .i64 0, .int .i64 0], .slice none 0 0], []⟩ 8 (by kernel_rfl) (by kernel_rfl) (by kernel_rfl) (by kernel_rfl)) ?_
  intro W base args ds gs before hval0 hW _ _
  have hval : ∀ (j : Nat) t v, Try.f4.params[j]? = some t → args[j]? = some v → Value.okWide Try.prog W .any base t v := hval0
  have hW' := hW
  obtain ⟨p, q, hA0, hV, rfl, _, _⟩ := hW
  have hA : DataW.TrodAll enc Try.prog W 0 (fun _ => true) true Try.f4.params.toList args.toList ds p := hA0
  rw [Try.params4] at hA hval
  obtain ⟨u0, u1, u2, d0, d1, d2, p0, p1, p2, rfl, rfl, rfl, h0, h1, h2⟩ := trodAll_three hA
  obtain ⟨rfl, rfl⟩ := trodVars_none hV
  obtain ⟨a, b, rfl, rfl, rfl, wa, wb⟩ := open_frac (hval 0 23 u0 rfl rfl) h0
  obtain ⟨p, q, rfl, rfl, rfl, wp, wq⟩ := open_frac (hval 1 23 u1 rfl rfl) h1
  clear hA0 hval0
  simp only [List.append_nil, List.nil_append] at hW'
  have hlt : ∀ x ∈ p2, x.block < W.heap.size := fun x hx => by simpa using hW'.lt x hx
  have done : ∀ (e : Ending) (W' : World), e = .returned (.bool true) ∧ Gr W W' → ∃ v, e = .returned v ∧ Rows.fnExactErrorsFromSpec.post enc Try.prog Try.f4 false true false false W #[fr a b, fr p q, u2] v W' := fun e W' ⟨he, hg⟩ => by
    subst he
    exact ⟨_, rfl, _, _, _, [], p2, [], hW', trodAll_mk1 (shut_bool Try.underlying4 _), (by have hta := trodAll_mk3 (shut_frac wa wb) (shut_frac wp wq) (Below.trod laidOutErrorsFrom (by kernel_rfl) (of_decide_eq_true (by kernel_rfl)) h2 hg.below hlt); simp only [List.nil_append] at hta; exact hta), rfl, hg.below.frame _, fun h => by cases h⟩
  obtain ⟨A, n, cap, rfl⟩ := okWide_slice Try.underlying24 (hval 2 24 u2 rfl rfl)
  obtain ⟨hmax, xs, rfl, hraw⟩ := open_fracs h2
  by_cases hn : xs.length ≤ 1048576
  · obtain ⟨u, v, ys, C, hys, hs, hi⟩ := bothErrorsFrom a b p q xs hn
    exact (lawErrorsFrom a b p q A cap xs u v ys C W hraw hn hys hs hi).mono done
  · exact (lawErrorsFrom_big a b p q A xs.length cap W (by omega) hmax).mono done

set_option maxHeartbeats 2000000 in
theorem closedErrorsFrom : joinedFacts Try.pinned.checked.prog 4 Try.f4 Rows.fnExactErrorsFromSpec Rows.fnExactErrorsFromRow = true := by
  unfold joinedFacts
  refine Bool.and_eq_true_iff.2 ⟨?_, by as_aux_lemma => kernel_rfl⟩
  refine Bool.and_eq_true_iff.2 ⟨?_, by as_aux_lemma => kernel_rfl⟩
  refine Bool.and_eq_true_iff.2 ⟨?_, by as_aux_lemma => kernel_rfl⟩
  refine Bool.and_eq_true_iff.2 ⟨?_, by as_aux_lemma => kernel_rfl⟩
  refine Bool.and_eq_true_iff.2 ⟨?_, by rw [fact_make]; rfl⟩
  refine Bool.and_eq_true_iff.2 ⟨?_, by rw [fact_final]; rfl⟩
  refine Bool.and_eq_true_iff.2 ⟨?_, fact_enters⟩
  refine Bool.and_eq_true_iff.2 ⟨?_, by as_aux_lemma => kernel_rfl⟩
  refine Bool.and_eq_true_iff.2 ⟨?_, by as_aux_lemma => kernel_rfl⟩
  refine Bool.and_eq_true_iff.2 ⟨?_, by as_aux_lemma => kernel_rfl⟩
  refine Bool.and_eq_true_iff.2 ⟨?_, by as_aux_lemma => kernel_rfl⟩
  refine Bool.and_eq_true_iff.2 ⟨?_, by as_aux_lemma => kernel_rfl⟩
  refine Bool.and_eq_true_iff.2 ⟨?_, by as_aux_lemma => kernel_rfl⟩
  refine Bool.and_eq_true_iff.2 ⟨?_, by as_aux_lemma => kernel_rfl⟩
  refine Bool.and_eq_true_iff.2 ⟨?_, by as_aux_lemma => kernel_rfl⟩
  refine Bool.and_eq_true_iff.2 ⟨?_, by as_aux_lemma => kernel_rfl⟩
  refine Bool.and_eq_true_iff.2 ⟨?_, by as_aux_lemma => kernel_rfl⟩
  refine Bool.and_eq_true_iff.2 ⟨?_, by as_aux_lemma => kernel_rfl⟩
  refine Bool.and_eq_true_iff.2 ⟨?_, by as_aux_lemma => kernel_rfl⟩
  refine Bool.and_eq_true_iff.2 ⟨?_, by as_aux_lemma => kernel_rfl⟩
  refine Bool.and_eq_true_iff.2 ⟨?_, by as_aux_lemma => kernel_rfl⟩
  refine Bool.and_eq_true_iff.2 ⟨?_, by as_aux_lemma => kernel_rfl⟩
  refine Bool.and_eq_true_iff.2 ⟨?_, by as_aux_lemma => kernel_rfl⟩
  refine Bool.and_eq_true_iff.2 ⟨?_, by as_aux_lemma => kernel_rfl⟩
  refine Bool.and_eq_true_iff.2 ⟨?_, by as_aux_lemma => kernel_rfl⟩
  refine Bool.and_eq_true_iff.2 ⟨?_, by as_aux_lemma => kernel_rfl⟩
  refine Bool.and_eq_true_iff.2 ⟨?_, by as_aux_lemma => kernel_rfl⟩
  refine Bool.and_eq_true_iff.2 ⟨?_, by as_aux_lemma => kernel_rfl⟩
  refine Bool.and_eq_true_iff.2 ⟨?_, by as_aux_lemma => kernel_rfl⟩
  refine Bool.and_eq_true_iff.2 ⟨?_, by as_aux_lemma => kernel_rfl⟩
  as_aux_lemma => kernel_rfl
theorem errorsFrom_holds : Rows.FnExactErrorsFromSaid :=
  OpenClaim.holds_of_wide 4 Try.f4 rfl rfl rfl rfl rfl rfl rfl ⟨rfl, rfl, rfl, rfl, rfl⟩ rfl rfl rfl rfl rfl (by as_aux_lemma => kernel_rfl) Try.func4 closedErrorsFrom
    (of_decide_eq_true (by as_aux_lemma => kernel_rfl)) (by unfold Func.isWrapper; rw [if_neg (by decide +kernel)]; exact ⟨rfl, rfl⟩)
    (fun os started H enc _ => liftedErrorsFrom os started H enc)
#print axioms errorsFrom_holds
end Go.Proofs.Ytnbdafecgccojaa
