/- The law FnExactRingTable of the laws package returns true for every slice of fractions and every fraction, valid or not; they read behind the call as before it. No condition. -/
import Derived.Test.YteopkbeokiomlaaRows
import Derived.Test.YteopkbeokiomlaaRi
import Derived.Test.YteopkbeokiomlaaMk
import Derived.Test.YteopkbeokiomlaaRf
import Derived.Test.YteopkbeokiomlaaFacts
import Derived.ProofKit
import Derived.Carry
import Derived.Lib.SmallJoins
namespace Go.Proofs.Yteopkbeokiomlaa
open Go.RowKit Go.Sort

theorem own_other9 {w w' : World} {base b n : Nat} {E T : TypeId} {v : Value} {xs : List Value} {cs : Array Value} (h : w.ownsRow base E 9 v n xs) (hb : w.heap[b]? = some (.cells cs T)) (hT : T ≠ E) (hs : ∀ j, j ≠ b → w'.heap[j]? = w.heap[j]?) : w'.ownsRow base E 9 v n xs := by
  refine ⟨h.1, ?_⟩
  rcases h.2 with h0 | ⟨g, cap, cur, h1, h2, h3, h4⟩
  · exact .inl h0
  · refine .inr ⟨g, cap, cur, h1, h2, ?_, h4⟩
    rw [hs g (fun he => ?_)]
    · exact h3
    · subst he
      rw [h3] at hb
      injection hb with e1
      injection e1 with _ e2
      exact hT e2.symm
set_option maxRecDepth 20000 in
set_option maxHeartbeats 4000000 in
theorem lawRingTable (p q : Int) (A : Option Addr) (cap : Nat) (xs : List (Int × Int)) (n : Int) (b : Bool) (u v : Int) (ys : List Obv) (C : Int) (w : World) (hr : RawF w (.slice A xs.length cap) xs) (hn : xs.length ≤ 1048576) (hys : ys.length ≤ 1048576)
    (hs : ∀ (A : Option Addr) (c : Nat) (w : World), Hid (RdF w A xs) → Calls Try.prog 50 #[.slice A xs.length c, fr p q] w fun e w' => GivesTb w w' e n b u v ys C)
    (hi : ∀ (A : Option Addr) (c : Nat) (w : World), Hid (RdF w A xs) → Calls Try.prog 51 #[.slice A xs.length c, fr p q] w fun e w' => GivesTb w w' e n b u v ys C) :
    Calls Try.prog 10 #[.slice A xs.length cap, fr p q] w fun x w' => x = .returned (.bool true) ∧ Gr w w' := by
  have HS := hid hs; have HI := hid hi; have HR := hid hr
  have HSZ := hid fun (w : World) => (szF A xs.length cap 1048576 w (by omega) (by omega) (by omega)).mono (R' := fun e w' => e = .returned (.int .i64 (1048576 - (xs.length : Int))) ∧ Gr w w') fun e w' h => ⟨by rw [h.1, if_pos (by omega)], h.2⟩
  clear hs hi hr
  go_enter Try.func10, Try.ntmps10
  go_wp2_with fail
  refine (HSZ.out _).mono ?_
  rintro e w1 ⟨rfl, hg1⟩
  obtain ⟨x1_0, hz1, g1⟩ := alloc1 hg1
  obtain ⟨_, _⟩ := cells2 x1_0
  have _ := fz x1_0
  have _ := ltb x1_0
  have X1_0 := hid x1_0; clear x1_0
  have G1 := hid (g1)
  clear hg1 g1
  go_wp2_with fail
  refine wp_regL2s (T := 82) (fun g : Nat => .slice (some ⟨g, 0, none⟩) xs.length xs.length) (fun g w => w.heap[g]? = some (.cells (flatA xs) 26)) (fun ε : Option Addr × Nat => .tuple #[tbl n ε.1 ys.length ε.2 b u v, .int .i64 C]) (fun ε w => w.ownsRow w1.heap.size 149 9 (.slice ε.1 ys.length ε.2) ys.length (flO ys)) #[.int .i64 0, .slice none 0 0, .bool false, .int .i64 0, .int .i64 0] 10 1 23 4 26 8 6 9 27 [0, 0, 0, 0, 1, 2, 2, 2, 0, 2] [1, 4, 5, 6, 7, 8, 9] [0, 1, 2, 3, 4, 5, 6, 7, 8, 9] [0, 1, 2, 3, 4, 8, 9] (by kernel_rfl) (by kernel_rfl) (by kernel_rfl) rfl rfl (by decide) rfl rfl (by simp) rfl rfl (by decide) (fun _ _ => by kernel_rfl) (by kernel_rfl) (fun g g' h => by simpa using h) (fun g w w' h hg => hg.keep h) (fun g w w' b h hb hs => row_other h hb (by decide) hs) (fun ε ε' h => by obtain ⟨A1, c1⟩ := ε; obtain ⟨A2, c2⟩ := ε'; simpa using h) (fun ε w w' h hg => own_gr h hg) (fun ε w w' b h hb hs => own_other9 h hb (by decide) hs) ?_
  apply Exists.intro; apply Exists.intro; apply Exists.intro; apply Exists.intro
  refine ⟨fun wb hb => ?_, fun o ho wb hb => ?_, fun g wb hb hg => ?_, fun o ho g wb hb hg => ?_, fun g ε wb hb hg ho => ?_, fun g ε => ?_, fun ε => ?_, fun g2 ε2 w2 b2 hg2 _ o2 hb2 v2 => ?_⟩
  · obtain ⟨_, _⟩ := hb.at2 X1_0.out
    simp only [headOps, List.contains, List.elem, Nat.reduceAdd, Nat.reduceBEq, reduceIte, Bool.false_eq_true, dumOp]
    repeat (first | go_big_quiet_step (first | (go_at_call 43; exact Calls.of_gr (toFrac_any _ _ _))) | quiet_step (fail))
    exact wpQuiet_nil rfl
  · cases ho
    exact ⟨_, _, by kernel_rfl, (toFracS_any _ xs wb hn (HR.out.keep (G1.out.trans hb))).mono fun e w' h => ⟨_, h.1, h.2.1, h.2.2⟩⟩
  · simp only [headOps, List.contains, List.elem, Nat.reduceAdd, Nat.reduceBEq, reduceIte, dumOp]
    repeat (first | go_big_quiet_step (first | fail) | quiet_step (fail))
    exact wpQuiet_nil rfl
  · cases ho
    exact ⟨_, _, by kernel_rfl, (HS.out _ xs.length _ (hid (RdF.of_block hg))).mono fun e w' ⟨A', c', he, ho, hg'⟩ => ⟨(A', c'), he, own_base ho hb.size, hg'⟩⟩
  · simp only [headOps, List.contains, List.elem, Nat.reduceAdd, Nat.reduceBEq, reduceIte, Bool.false_eq_true, dumOp]
    repeat (first | go_big_quiet_step (first | (fail)) | quiet_step (fail))
    exact wpQuiet_nil rfl
  · exact ⟨rfl, rfl⟩
  · exact ⟨rfl, by simp [Value.oneCell']⟩
  simp only [List.drop_succ_cons, List.drop_zero]
  have L2 := hid (own_lt o2); have O2 := hid o2; have V2 := hid v2; have G2 := hid (G1.out.trans hg2); have BA2 := hid (hg2.keep X1_0.out)
  have Z2 := hid (ltb v2); have HW2 := hid hg2.size
  clear hg2 o2 v2 hb2
  go_wp2_with fail
  refine (toFracS_any _ xs _ hn (HR.out.keep G2.out)).mono ?_
  rintro e w3 ⟨rfl, x3, hg3⟩
  have X3 := hid x3; have Z3 := hid (ltb x3); have O3 := hid (own_gr O2.out hg3); have V3 := hid (hg3.keep V2.out); have G3 := hid (G2.out.trans hg3); have BA3 := hid (hg3.keep BA2.out)
  clear x3 hg3 O2 V2 BA2
  obtain ⟨_, _⟩ := cells2 BA3.out
  have _ := ltb BA3.out
  go_wp2_with fail
  refine (toFrac_any _ _ _).mono ?_
  rintro e w4 ⟨rfl, hg4⟩
  have X4 := hid (hg4.keep X3.out); have O4 := hid (own_gr O3.out hg4); have V4 := hid (hg4.keep V3.out); have G4 := hid (G3.out.trans hg4); have BA4 := hid (hg4.keep BA3.out); have S4 := hid (Nat.lt_of_lt_of_le Z3.out hg4.size)
  clear hg4 X3 O3 V3 BA3
  go_wp2_with fail
  refine (HI.out _ xs.length _ (hid (RdF.of_block X4.out))).mono ?_
  rintro e w5 ⟨A5, c5, rfl, o5, hg5⟩
  have LG := hid (own_lt o5); have OG5 := hid o5; have O5 := hid (own_gr O4.out hg5); have V5 := hid (hg5.keep V4.out); have X5 := hid (hg5.keep X4.out); have G5 := hid (G4.out.trans hg5); have BA5 := hid (hg5.keep BA4.out); have S5 := hid (Nat.lt_of_lt_of_le S4.out hg5.size)
  clear o5 hg5 O4 V4 X4 BA4
  obtain ⟨_, _, _, _, _⟩ := cells5 V5.out
  have _ := ltb V5.out
  go_wp2_with fail
  refine (eqTb_any _ _ _ _ _ _ _ _ ys _ (hid (RdO.of_own (own_gr OG5.out ((Gr.refl _).al _)))) (hid (RdO.of_own (own_gr O5.out ((Gr.refl _).al _)))) hys).mono ?_
  rintro e w6 ⟨rfl, hg6⟩
  obtain ⟨p6, _, g6⟩ := alloc1 hg6
  have OG6 := hid (own_gr OG5.out g6); have O6 := hid (own_gr O5.out g6); have X6 := hid (g6.keep X5.out); have V6 := hid (g6.keep V5.out); have P6 := hid p6; have G6 := hid (G5.out.trans g6); have BA6 := hid (g6.keep BA5.out)
  clear hg6 p6 g6 OG5 O5 X5 V5 BA5
  go_wp2_with fail
  refine (toFracS_any _ xs _ hn (HR.out.keep G6.out)).mono ?_
  rintro e w7 ⟨rfl, x7, hg7⟩
  have Y7 := hid x7; have OG7 := hid (own_gr OG6.out hg7); have O7 := hid (own_gr O6.out hg7); have X7 := hid (hg7.keep X6.out); have V7 := hid (hg7.keep V6.out); have P7 := hid (hg7.keep P6.out); have G7 := hid (G6.out.trans hg7); have BA7 := hid (hg7.keep BA6.out)
  clear x7 hg7 OG6 O6 X6 V6 P6 BA6
  go_wp2_with fail
  refine (eqF_any _ _ _ _ xs _ (hid (RdF.of_block X7.out)) (hid (RdF.of_block Y7.out)) hn).mono ?_
  rintro e w8 ⟨rfl, hg8⟩
  have OG8 := hid (own_gr OG7.out hg8); have O8 := hid (own_gr O7.out hg8); have X8 := hid (hg8.keep X7.out); have V8 := hid (hg8.keep V7.out); have P8 := hid (hg8.keep P7.out); have G8 := hid (G7.out.trans hg8); have BA8 := hid (hg8.keep BA7.out)
  clear hg8 OG7 O7 X7 V7 P7 BA7 Y7
  go_wp2_with fail
  refine (markF_any w2.heap.size xs.length xs.length 1 (flatA xs) _ _ X8 (by unfold flatA; simp [flatL_len]) hn (by omega) (by omega)).mono ?_
  rintro e w9 ⟨rfl, _, on9⟩
  have OG9 := hid (own_only OG8.out on9 (fun ad he => Nat.ne_of_gt (Nat.lt_of_lt_of_le S4.out (LG.out ad he).1)))
  have R9 := hid ((RdO.of_own O8.out).only on9 (fun ad he => Nat.ne_of_lt (L2.out ad he).2))
  have V9 := hid (on9.1 _ _ (Nat.ne_of_lt Z2.out) V8.out)
  have P9 := hid (on9.1 _ _ (Nat.ne_of_gt S5.out) P8.out)
  have BA9 := hid (on9.1 _ _ (Nat.ne_of_lt (Nat.lt_of_lt_of_le (ltb X1_0.out) HW2.out)) BA8.out)
  have G9 := hid (on9.2 w G8.out G2.out.size)
  clear on9 OG8 O8 X8 V8 P8 BA8
  obtain ⟨_, _, _, _, _⟩ := cells5 V9.out
  have _ := ltb V9.out
  obtain ⟨_, _, _, _, _⟩ := cells5 P9.out
  have _ := ltb P9.out
  go_wp2_with fail
  refine (eqTb_any _ _ _ _ _ _ _ _ ys _ (hid (RdO.of_own OG9.out)) R9 hys).mono ?_
  rintro e w10 ⟨rfl, g10⟩
  have OG10 := hid (own_gr OG9.out g10); have R10 := hid (R9.out.keep g10); have V10 := hid (g10.keep V9.out); have P10 := hid (g10.keep P9.out); have BA10 := hid (g10.keep BA9.out); have G10 := hid (G9.out.trans g10)
  clear g10 OG9 R9 V9 P9 BA9
  obtain ⟨_, _, _, _, _⟩ := cells5 P10.out
  have _ := ltb P10.out
  go_wp2_with fail
  refine (markOwnTb _ _ _ _ _ _ ys _ _ 1 _ OG10 hys (by omega) (by omega)).mono ?_
  rintro e w11 ⟨rfl, ⟨gg, hgg, on11⟩, m11, ot11⟩
  have M11 := hid m11
  have R11 := hid (R10.out.only on11 (fun ad he => Nat.ne_of_lt (Nat.lt_of_lt_of_le (Nat.lt_trans (L2.out ad he).2 S4.out) hgg)))
  have V11 := hid (ot11 _ _ _ (by decide) V10.out)
  have P11 := hid (ot11 _ _ _ (by decide) P10.out)
  have BA11 := hid (ot11 _ _ _ (by decide) BA10.out)
  have G11 := hid (on11.2 w G10.out (Nat.le_trans G4.out.size hgg))
  clear on11 m11 ot11 OG10 R10 V10 P10 BA10
  obtain ⟨_, _, _, _, _⟩ := cells5 P11.out
  have _ := ltb P11.out
  go_wp2_with fail
  refine (heldTb_any _ _ _ _ _ _ _ 1 _ M11 hys (by omega) (by omega)).mono ?_
  rintro e w12 ⟨rfl, g12⟩
  have M12 := hid (M11.out.keep g12); have R12 := hid (R11.out.keep g12); have V12 := hid (g12.keep V11.out); have P12 := hid (g12.keep P11.out); have BA12 := hid (g12.keep BA11.out); have G12 := hid (G11.out.trans g12)
  clear g12 M11 R11 V11 P11 BA11
  go_wp2_with fail
  refine wp_regL2s (T := 82) (fun g : Nat => .slice (some ⟨g, 0, none⟩) xs.length xs.length) (fun g w => w.heap[g]? = some (.cells (flatA xs) 26)) (fun ε : Option Addr × Nat => .tuple #[tbl n ε.1 ys.length ε.2 b u v, .int .i64 C]) (fun ε w => w.ownsRow w12.heap.size 149 9 (.slice ε.1 ys.length ε.2) ys.length (flO ys)) #[.int .i64 0, .slice none 0 0, .bool false, .int .i64 0, .int .i64 0] 10 1 81 4 84 8 14 9 85 [0, 0, 0, 0, 1, 2, 2, 2, 0, 2] [1, 4, 5, 6, 7, 8, 9] [0, 1, 2, 3, 4, 5, 6, 7, 8, 9] [0, 1, 2, 3, 4, 8, 9] (by kernel_rfl) (by kernel_rfl) (by kernel_rfl) rfl rfl (by decide) rfl rfl (by simp) rfl rfl (by decide) (fun _ _ => by kernel_rfl) (by kernel_rfl) (fun g g' h => by simpa using h) (fun g w w' h hg => hg.keep h) (fun g w w' b h hb hs => row_other h hb (by decide) hs) (fun ε ε' h => by obtain ⟨A1, c1⟩ := ε; obtain ⟨A2, c2⟩ := ε'; simpa using h) (fun ε w w' h hg => own_gr h hg) (fun ε w w' b h hb hs => own_other9 h hb (by decide) hs) ?_
  apply Exists.intro; apply Exists.intro; apply Exists.intro; apply Exists.intro
  refine ⟨fun wb hb => ?_, fun o ho wb hb => ?_, fun g wb hb hg => ?_, fun o ho g wb hb hg => ?_, fun g ε wb hb hg ho => ?_, fun g ε => ?_, fun ε => ?_, fun g13 ε13 w13 b13 hg13 _ o13 _ v13 => ?_⟩
  · obtain ⟨_, _⟩ := hb.at2 BA12.out
    simp only [headOps, List.contains, List.elem, Nat.reduceAdd, Nat.reduceBEq, reduceIte, Bool.false_eq_true, dumOp]
    repeat (first | go_big_quiet_step (first | (go_at_call 43; exact Calls.of_gr (toFrac_any _ _ _))) | quiet_step (fail))
    exact wpQuiet_nil rfl
  · cases ho
    exact ⟨_, _, by kernel_rfl, (toFracS_any _ xs wb hn (HR.out.keep (G12.out.trans hb))).mono fun e w' h => ⟨_, h.1, h.2.1, h.2.2⟩⟩
  · simp only [headOps, List.contains, List.elem, Nat.reduceAdd, Nat.reduceBEq, reduceIte, dumOp]
    repeat (first | go_big_quiet_step (first | fail) | quiet_step (fail))
    exact wpQuiet_nil rfl
  · cases ho
    exact ⟨_, _, by kernel_rfl, (HI.out _ xs.length _ (hid (RdF.of_block hg))).mono fun e w' ⟨A', c', he, ho, hg'⟩ => ⟨(A', c'), he, own_base ho hb.size, hg'⟩⟩
  · simp only [headOps, List.contains, List.elem, Nat.reduceAdd, Nat.reduceBEq, reduceIte, Bool.false_eq_true, dumOp]
    repeat (first | go_big_quiet_step (first | (fail)) | quiet_step (fail))
    exact wpQuiet_nil rfl
  · exact ⟨rfl, rfl⟩
  · exact ⟨rfl, by simp [Value.oneCell']⟩
  simp only [List.drop_succ_cons, List.drop_zero]
  have RH := hid (RdO.of_own o13); have V13 := hid v13; have M13 := hid (M12.out.keep hg13); have R13 := hid (R12.out.keep hg13); have W13 := hid (hg13.keep V12.out); have P13 := hid (hg13.keep P12.out); have G13 := hid (G12.out.trans hg13)
  clear o13 v13 hg13 M12 R12 V12 P12 BA12
  obtain ⟨_, _, _, _, _⟩ := cells5 V13.out
  have _ := ltb V13.out
  obtain ⟨_, _, _, _, _⟩ := cells5 W13.out
  have _ := ltb W13.out
  obtain ⟨_, _, _, _, _⟩ := cells5 P13.out
  have _ := ltb P13.out
  go_wp2_with fail
  refine (eqTb_any _ _ _ _ _ _ _ _ ys _ RH R13 hys).mono ?_
  rintro e w14 ⟨rfl, g14⟩
  have M14 := hid (M13.out.keep g14); have P14 := hid (g14.keep P13.out); have G14 := hid (G13.out.trans g14); clear g14 M13 R13 RH P13
  obtain ⟨_, _, _, _, _⟩ := cells5 P14.out
  have _ := ltb P14.out
  go_wp2_with fail
  refine (heldTb_any _ _ _ _ _ _ _ 1 _ M14 hys (by omega) (by omega)).mono ?_
  rintro e w15 ⟨rfl, g15⟩
  have G15 := hid (G14.out.trans g15); clear g15 M14
  go_wp2_with fail
  go_ret
  exact ⟨rfl, G15.out⟩
set_option maxRecDepth 20000 in
set_option maxHeartbeats 400000 in
theorem lawRingTable_big (p q : Int) (A : Option Addr) (n cap : Nat) (w : World) (h : 1048576 < n) (h2 : n ≤ 9223372036854775807) :
    Calls Try.prog 10 #[.slice A n cap, fr p q] w fun e w' => e = .returned (.bool true) ∧ Gr w w' := by
  have HSZ := hid fun (w : World) => (szF A n cap 1048576 w h2 (by omega) (by omega)).mono (R' := fun e w' => e = .returned (.int .i64 (-1)) ∧ Gr w w') fun e w' h => ⟨by rw [h.1, if_neg (by omega)], h.2⟩
  go_enter Try.func10, Try.ntmps10
  go_wp2_with fail
  refine (HSZ.out _).mono ?_
  rintro e w1 ⟨rfl, hg1⟩
  obtain ⟨x1_0, hz1, g1⟩ := alloc1 hg1
  obtain ⟨_, _⟩ := cells2 x1_0
  have _ := fz x1_0
  have _ := ltb x1_0
  have X1_0 := hid x1_0; clear x1_0
  have G1 := hid (g1)
  clear hg1 g1
  go_wp2
  go_ret
  exact ⟨rfl, G1.out⟩
open Go.ChangeShapes Go.WideShapes Go.ChangeAt Go.Joins
theorem laidOutRingTable : laidOutB Try.prog = true := by as_aux_lemma => kernel_rfl
set_option maxRecDepth 100000 in
theorem liftedRingTable (os : Os) (started : os.Started) (H : Type) (enc : TypeId × Value → H) :
    ReturnsInHanded {} Try.checked os 10 .any (Rows.fnExactRingTableSpec.pre6 enc Try.prog Try.f10 Rows.fnExactRingTableRow.domain false) (Rows.fnExactRingTableSpec.post enc Try.prog Try.f10 false true false false) := by
  refine returnsInHanded_of_change (C := Try.checked) ownNone started (by kernel_rfl) Try.func10
    (ChangeSpec.witness6 (enc := enc) (C := Try.checked) false ⟨#[], #[.slice none 0 0, .agg #[.int .i64 0, .int .i64 0]], []⟩ 8 (by kernel_rfl) (by kernel_rfl) (by kernel_rfl) (by kernel_rfl)) ?_
  intro W base args ds gs before hval0 hW _ _
  have hval : ∀ (j : Nat) t v, Try.f10.params[j]? = some t → args[j]? = some v → Value.okWide Try.prog W .any base t v := hval0
  have hW' := hW
  obtain ⟨p, q, hA0, hV, rfl, _, _⟩ := hW
  have hA : DataW.TrodAll enc Try.prog W 0 (fun _ => true) true Try.f10.params.toList args.toList ds p := hA0
  rw [Try.params10] at hA hval
  obtain ⟨u0, u1, d0, d1, p0, p1, rfl, rfl, rfl, h0, h1⟩ := trodAll_two hA
  obtain ⟨rfl, rfl⟩ := trodVars_none hV
  obtain ⟨p, q, rfl, rfl, rfl, wp, wq⟩ := open_frac (hval 1 23 u1 rfl rfl) h1
  clear hA0 hval0
  simp only [List.append_nil] at hW'
  have hlt : ∀ x ∈ p0, x.block < W.heap.size := fun x hx => by simpa using hW'.lt x hx
  have done : ∀ (e : Ending) (W' : World), e = .returned (.bool true) ∧ Gr W W' → ∃ v, e = .returned v ∧ Rows.fnExactRingTableSpec.post enc Try.prog Try.f10 false true false false W #[u0, fr p q] v W' := fun e W' ⟨he, hg⟩ => by
    subst he
    exact ⟨_, rfl, _, _, _, [], p0, [], hW', trodAll_mk1 (shut_bool Try.underlying4 _), (by have hta := trodAll_mk2 (Below.trod laidOutRingTable (by kernel_rfl) (of_decide_eq_true (by kernel_rfl)) h0 hg.below hlt) (shut_frac wp wq); simp only [List.append_nil] at hta; exact hta), rfl, hg.below.frame _, fun h => by cases h⟩
  obtain ⟨A, n, cap, rfl⟩ := okWide_slice Try.underlying45 (hval 0 45 u0 rfl rfl)
  obtain ⟨hmax, xs, rfl, hraw⟩ := open_fracs h0
  by_cases hn : xs.length ≤ 1048576
  · obtain ⟨n, b, u, v, ys, C, hys, hs, hi⟩ := bothRingTable p q xs hn
    exact (lawRingTable p q A cap xs n b u v ys C W hraw hn hys hs hi).mono done
  · exact (lawRingTable_big p q A xs.length cap W (by omega) hmax).mono done

set_option maxHeartbeats 2000000 in
theorem closedRingTable : joinedFacts Try.pinned.checked.prog 10 Try.f10 Rows.fnExactRingTableSpec Rows.fnExactRingTableRow = true := by
  unfold joinedFacts
  refine Bool.and_eq_true_iff.2 ⟨?_, by as_aux_lemma => kernel_rfl⟩
  refine Bool.and_eq_true_iff.2 ⟨?_, by as_aux_lemma => kernel_rfl⟩
  refine Bool.and_eq_true_iff.2 ⟨?_, by as_aux_lemma => kernel_rfl⟩
  refine Bool.and_eq_true_iff.2 ⟨?_, by as_aux_lemma => kernel_rfl⟩
  refine Bool.and_eq_true_iff.2 ⟨?_, by rw [fact_make]; rfl⟩
  refine Bool.and_eq_true_iff.2 ⟨?_, by rw [fact_final]; rfl⟩
  refine Bool.and_eq_true_iff.2 ⟨?_, fact_enters⟩
  refine Bool.and_eq_true_iff.2 ⟨?_, by as_aux_lemma => kernel_rfl⟩
  refine Bool.and_eq_true_iff.2 ⟨?_, by as_aux_lemma => kernel_rfl⟩
  refine Bool.and_eq_true_iff.2 ⟨?_, by as_aux_lemma => kernel_rfl⟩
  refine Bool.and_eq_true_iff.2 ⟨?_, by as_aux_lemma => kernel_rfl⟩
  refine Bool.and_eq_true_iff.2 ⟨?_, by as_aux_lemma => kernel_rfl⟩
  refine Bool.and_eq_true_iff.2 ⟨?_, by as_aux_lemma => kernel_rfl⟩
  refine Bool.and_eq_true_iff.2 ⟨?_, by as_aux_lemma => kernel_rfl⟩
  refine Bool.and_eq_true_iff.2 ⟨?_, by as_aux_lemma => kernel_rfl⟩
  refine Bool.and_eq_true_iff.2 ⟨?_, by as_aux_lemma => kernel_rfl⟩
  refine Bool.and_eq_true_iff.2 ⟨?_, by as_aux_lemma => kernel_rfl⟩
  refine Bool.and_eq_true_iff.2 ⟨?_, by as_aux_lemma => kernel_rfl⟩
  refine Bool.and_eq_true_iff.2 ⟨?_, by as_aux_lemma => kernel_rfl⟩
  refine Bool.and_eq_true_iff.2 ⟨?_, by as_aux_lemma => kernel_rfl⟩
  refine Bool.and_eq_true_iff.2 ⟨?_, by as_aux_lemma => kernel_rfl⟩
  refine Bool.and_eq_true_iff.2 ⟨?_, by as_aux_lemma => kernel_rfl⟩
  refine Bool.and_eq_true_iff.2 ⟨?_, by as_aux_lemma => kernel_rfl⟩
  refine Bool.and_eq_true_iff.2 ⟨?_, by as_aux_lemma => kernel_rfl⟩
  refine Bool.and_eq_true_iff.2 ⟨?_, by as_aux_lemma => kernel_rfl⟩
  refine Bool.and_eq_true_iff.2 ⟨?_, by as_aux_lemma => kernel_rfl⟩
  refine Bool.and_eq_true_iff.2 ⟨?_, by as_aux_lemma => kernel_rfl⟩
  refine Bool.and_eq_true_iff.2 ⟨?_, by as_aux_lemma => kernel_rfl⟩
  refine Bool.and_eq_true_iff.2 ⟨?_, by as_aux_lemma => kernel_rfl⟩
  refine Bool.and_eq_true_iff.2 ⟨?_, by as_aux_lemma => kernel_rfl⟩
  as_aux_lemma => kernel_rfl
theorem ringTable_holds : Rows.FnExactRingTableSaid :=
  OpenClaim.holds_of_wide 10 Try.f10 rfl rfl rfl rfl rfl rfl rfl ⟨rfl, rfl, rfl, rfl, rfl⟩ rfl rfl rfl rfl rfl (by as_aux_lemma => kernel_rfl) Try.func10 closedRingTable
    (of_decide_eq_true (by as_aux_lemma => kernel_rfl)) (by unfold Func.isWrapper; rw [if_neg (by decide +kernel)]; exact ⟨rfl, rfl⟩)
    (fun os started H enc _ => liftedRingTable os started H enc)
#print axioms ringTable_holds
end Go.Proofs.Yteopkbeokiomlaa
