/- TEXTS of reports: of the reference; both joined. -/
import Derived.Test.YtkeflpcokcfcjaaDoorJr
import Derived.Test.YtkeflpcokcfcjaaDoorRgy
namespace Go.Proofs.YtkeflpcokcfcjaaDoor
open Go.RowKit Go.Sort

set_option maxRecDepth 20000 in
set_option maxHeartbeats 2000000 in
theorem sSpanTxA (a b c d : Int) (g k : Nat) (w : World) (X : Hid (CelN w ⟨g, k, none⟩ ⟨a, b, c, d⟩)) (hk : spB a b c d = true) : Calls Tryd.prog 66 #[.pointer (some ⟨g, k, none⟩)] w fun e w' => e = .returned (.string (txtS a b c d)) ∧ Gr w w' := by
  have H1 := hid (spB_oks hk).1; have H2 := hid (spB_oks hk).2
  have s1 := txtF_size H1.out; have s2 := txtF_size H2.out
  have HV : Hid (txtS a b c d = txtF a b ++ ⟨#[46, 46]⟩ ++ txtF c d) := hid rfl
  clear hk
  obtain ⟨_, _, _, _⟩ := X.out.blk
  go_enter Tryd.func66, Tryd.ntmps66
  go_wp2_with fail
  go_region_with (first | (go_at_call_of 46 (Value.agg #[Value.int IntKind.i64 a, Value.int IntKind.i64 b]); refine (sText a b _ H1.out).mono ?_; rintro e w2 ⟨rfl, hg2⟩; have G2 := hid ((Gr.drew _).trans hg2); obtain ⟨_, _, _, _⟩ := (X.out.keep G2.out).blk; clear hg2) | (go_at_call_of 46 (Value.agg #[Value.int IntKind.i64 c, Value.int IntKind.i64 d]); refine (sText c d _ H2.out).mono ?_; rintro e w3 ⟨rfl, hg3⟩; have G3 := hid (G2.out.trans hg3); clear hg3))
  all_goals
    go_wp2
    go_ret
    exact ⟨by rw [HV.out]; rfl, G3.out⟩
theorem cells15_0 {w : World} {b : Nat} {x : Rpv} {T : TypeId} (h : w.heap[b]? = some (.cells #[.int .i64 x.t, .int .i64 x.a, .int .i64 x.b, .int .i64 x.c, .int .i64 x.d, .int .i64 x.e, .int .i64 x.f, .int .i64 x.g, .int .i64 x.h, .int .i64 x.i, .int .i64 x.k, .int .i64 x.l, .int .i64 x.m, .int .i64 x.n, .int .i64 x.o] T)) : w.cell? ⟨b, 0, none⟩ = some (.int .i64 x.t) := (cells15 h).1
set_option maxRecDepth 20000 in
set_option maxHeartbeats 2000000 in
theorem sTold_no (x : Rpv) (j : Nat) (w : World) (X : Hid (w.heap[j]? = some (.cells #[.int .i64 x.t, .int .i64 x.a, .int .i64 x.b, .int .i64 x.c, .int .i64 x.d, .int .i64 x.e, .int .i64 x.f, .int .i64 x.g, .int .i64 x.h, .int .i64 x.i, .int .i64 x.k, .int .i64 x.l, .int .i64 x.m, .int .i64 x.n, .int .i64 x.o] 51))) (h : inB x.t 0 9 = false) : Calls Tryd.prog 35 #[.pointer (some ⟨j, 0, none⟩)] w fun e w' => e = .returned (.bool false) ∧ Gr w w' := by
  have HI := hid fun w => in_f x.t 0 9 w h
  clear h
  have z0 := cells15_0 X.out
  have _ := ltb X.out
  go_enter Tryd.func35, Tryd.ntmps35
  go_wp2_with fail
  refine wp_reg0 38 (by kernel_rfl) (by kernel_rfl) ?_
  apply Exists.intro
  refine ⟨fun wb hb => ?_, ?_⟩
  · have _ := hb.atF z0
    simp only [headOps, List.contains, List.elem, reduceIte, Bool.false_eq_true]
    repeat (first | go_big_quiet_step (first | (go_at_call 31; exact Calls.of_gr (HI.out _))) | quiet_step (fail))
    exact wpQuiet_nil rfl
  intro w1 hg1
  have G1 := hid (hg1)
  clear hg1
  go_wp2
  go_ret
  exact ⟨rfl, G1.out⟩
set_option maxRecDepth 20000 in
set_option maxHeartbeats 2000000 in
theorem sTold_f (x : Rpv) (j : Nat) (w : World) (X : Hid (w.heap[j]? = some (.cells #[.int .i64 x.t, .int .i64 x.a, .int .i64 x.b, .int .i64 x.c, .int .i64 x.d, .int .i64 x.e, .int .i64 x.f, .int .i64 x.g, .int .i64 x.h, .int .i64 x.i, .int .i64 x.k, .int .i64 x.l, .int .i64 x.m, .int .i64 x.n, .int .i64 x.o] 51))) (h : inB x.t 0 9 = true) (hA : allF (fsR x) = false) : Calls Tryd.prog 35 #[.pointer (some ⟨j, 0, none⟩)] w fun e w' => e = .returned (.bool false) ∧ Gr w w' := by
  have HI := hid fun w => in_t x.t 0 9 w h
  have HS := hid fun (w : World) (Y : CelN w ⟨j, 11, none⟩ ⟨x.l, x.m, x.n, x.o⟩) => sSpanX x.l x.m x.n x.o w j 11 Y
  have HFS : Hid (∀ (g : Nat) (w : World), Hid (RdF w (some ⟨g, 0, none⟩) (fsR x)) → Calls Tryd.prog 64 #[.slice (some ⟨g, 0, none⟩) 5 5] w fun e w' => e = .returned (.bool false) ∧ Gr w w') := hid fun g w X => hA ▸ sFracs (some ⟨g, 0, none⟩) 5 (fsR x) w X (by simp [fsR])
  clear h hA
  obtain ⟨z0, z1, z2, z3, z4, z5, z6, z7, z8, z9, z10, z11, z12, z13, z14⟩ := cells15 X.out
  have _ := ltb X.out
  go_enter Tryd.func35, Tryd.ntmps35
  go_wp2_with fail
  refine wp_regY (b0 := (.cells #[.int .i64 x.a, .int .i64 x.b, .int .i64 x.c, .int .i64 x.d, .int .i64 x.e, .int .i64 x.f, .int .i64 x.g, .int .i64 x.h, .int .i64 x.i, .int .i64 x.k] 30)) (fun b => .slice (some ⟨b, 0, none⟩) 5 5) 30 29 32 (by kernel_rfl) (by kernel_rfl) rfl rfl (by simp) ?_
  apply Exists.intro
  refine ⟨fun wb hb => ?_, fun w' => ?_, ?_, ?_⟩
  · have _ := hb.atF z0; have _ := hb.atF z1; have _ := hb.atF z2; have _ := hb.atF z3; have _ := hb.atF z4; have _ := hb.atF z5; have _ := hb.atF z6; have _ := hb.atF z7; have _ := hb.atF z8; have _ := hb.atF z9; have _ := hb.atF z10; have _ := hb.atF z11; have _ := hb.atF z12; have _ := hb.atF z13; have _ := hb.atF z14
    simp only [headOps, List.contains, List.elem, Nat.reduceAdd, Nat.reduceBEq, reduceIte, Bool.false_eq_true, dumOp]
    repeat (first | go_big_quiet_step (first | (go_at_call 31; exact Calls.of_gr (HI.out _))) | quiet_step (fail))
    exact wpQuiet_nil rfl
  · kernel_rfl
  · kernel_rfl
  intro w1 nb hg1 hb1 xb
  have Y1 := hid (hg1.keep X.out)
  have X1 := hid (RdF.of_block (xs := fsR x) xb)
  have G1 := hid hg1
  clear hg1 hb1 xb
  simp only [List.drop_succ_cons, List.drop_zero]
  go_wp2_with fail
  refine (HFS.out _ _ X1).mono ?_
  rintro e w2 ⟨rfl, hg2⟩
  have G2 := hid (G1.out.trans hg2); clear hg2
  have _ := ltb (G2.out.keep X.out)
  go_wp2
  go_ret
  exact ⟨rfl, G2.out⟩
set_option maxRecDepth 20000 in
set_option maxHeartbeats 2000000 in
theorem sTold_t (x : Rpv) (j : Nat) (w : World) (X : Hid (w.heap[j]? = some (.cells #[.int .i64 x.t, .int .i64 x.a, .int .i64 x.b, .int .i64 x.c, .int .i64 x.d, .int .i64 x.e, .int .i64 x.f, .int .i64 x.g, .int .i64 x.h, .int .i64 x.i, .int .i64 x.k, .int .i64 x.l, .int .i64 x.m, .int .i64 x.n, .int .i64 x.o] 51))) (h : inB x.t 0 9 = true) (hA : allF (fsR x) = true) : Calls Tryd.prog 35 #[.pointer (some ⟨j, 0, none⟩)] w fun e w' => e = .returned (.bool (spB x.l x.m x.n x.o)) ∧ Gr w w' := by
  have HI := hid fun w => in_t x.t 0 9 w h
  have HS := hid fun (w : World) (Y : CelN w ⟨j, 11, none⟩ ⟨x.l, x.m, x.n, x.o⟩) => sSpanX x.l x.m x.n x.o w j 11 Y
  have HFS : Hid (∀ (g : Nat) (w : World), Hid (RdF w (some ⟨g, 0, none⟩) (fsR x)) → Calls Tryd.prog 64 #[.slice (some ⟨g, 0, none⟩) 5 5] w fun e w' => e = .returned (.bool true) ∧ Gr w w') := hid fun g w X => hA ▸ sFracs (some ⟨g, 0, none⟩) 5 (fsR x) w X (by simp [fsR])
  clear h hA
  obtain ⟨z0, z1, z2, z3, z4, z5, z6, z7, z8, z9, z10, z11, z12, z13, z14⟩ := cells15 X.out
  have _ := ltb X.out
  go_enter Tryd.func35, Tryd.ntmps35
  go_wp2_with fail
  refine wp_regY (b0 := (.cells #[.int .i64 x.a, .int .i64 x.b, .int .i64 x.c, .int .i64 x.d, .int .i64 x.e, .int .i64 x.f, .int .i64 x.g, .int .i64 x.h, .int .i64 x.i, .int .i64 x.k] 30)) (fun b => .slice (some ⟨b, 0, none⟩) 5 5) 30 29 32 (by kernel_rfl) (by kernel_rfl) rfl rfl (by simp) ?_
  apply Exists.intro
  refine ⟨fun wb hb => ?_, fun w' => ?_, ?_, ?_⟩
  · have _ := hb.atF z0; have _ := hb.atF z1; have _ := hb.atF z2; have _ := hb.atF z3; have _ := hb.atF z4; have _ := hb.atF z5; have _ := hb.atF z6; have _ := hb.atF z7; have _ := hb.atF z8; have _ := hb.atF z9; have _ := hb.atF z10; have _ := hb.atF z11; have _ := hb.atF z12; have _ := hb.atF z13; have _ := hb.atF z14
    simp only [headOps, List.contains, List.elem, Nat.reduceAdd, Nat.reduceBEq, reduceIte, Bool.false_eq_true, dumOp]
    repeat (first | go_big_quiet_step (first | (go_at_call 31; exact Calls.of_gr (HI.out _))) | quiet_step (fail))
    exact wpQuiet_nil rfl
  · kernel_rfl
  · kernel_rfl
  intro w1 nb hg1 hb1 xb
  have Y1 := hid (hg1.keep X.out)
  have X1 := hid (RdF.of_block (xs := fsR x) xb)
  have G1 := hid hg1
  clear hg1 hb1 xb
  simp only [List.drop_succ_cons, List.drop_zero]
  go_wp2_with fail
  refine (HFS.out _ _ X1).mono ?_
  rintro e w2 ⟨rfl, hg2⟩
  have G2 := hid (G1.out.trans hg2); clear hg2
  have _ := ltb (G2.out.keep X.out)
  go_wp2_with fail
  refine (HS.out _ (celN_rp (G2.out.keep X.out))).mono ?_
  rintro e w3 ⟨rfl, hg3⟩
  have G3 := hid (G2.out.trans hg3); clear hg3
  go_wp2
  go_ret
  exact ⟨rfl, G3.out⟩
theorem sTold_any (x : Rpv) (R : Bool) (j : Nat) (w : World) (X : Hid (w.heap[j]? = some (.cells #[.int .i64 x.t, .int .i64 x.a, .int .i64 x.b, .int .i64 x.c, .int .i64 x.d, .int .i64 x.e, .int .i64 x.f, .int .i64 x.g, .int .i64 x.h, .int .i64 x.i, .int .i64 x.k, .int .i64 x.l, .int .i64 x.m, .int .i64 x.n, .int .i64 x.o] 51))) (h : inB x.t 0 9 = true) (hR : rpB x = R) : Calls Tryd.prog 35 #[.pointer (some ⟨j, 0, none⟩)] w fun e w' => e = .returned (.bool R) ∧ Gr w w' := by
  subst hR
  unfold rpB
  cases hA : allF (fsR x) with
  | false => exact sTold_f x j w X h hA
  | true => exact sTold_t x j w X h hA
theorem rpW_is (x : Rpv) : (((((((((((txt x.t ++ ⟨#[32]⟩) ++ txtF x.a x.b) ++ ⟨#[32]⟩) ++ txtF x.c x.d) ++ ⟨#[32]⟩) ++ txtF x.e x.f) ++ ⟨#[32]⟩) ++ txtF x.g x.h) ++ ⟨#[32]⟩) ++ txtF x.i x.k) ++ ⟨#[32]⟩) ++ txtS x.l x.m x.n x.o = (⟨(Lib.join (rpW x) [32]).toArray⟩ : ByteArray) := by
  apply ByteArray.ext
  apply Array.ext'
  simp [rpW, fsR, Lib.join_cons, Lib.joinTail, txtF_mk, txt]
set_option maxRecDepth 20000 in
set_option maxHeartbeats 4000000 in
theorem sRpText (x : Rpv) (j : Nat) (w : World) (X : Hid (w.heap[j]? = some (.cells #[.int .i64 x.t, .int .i64 x.a, .int .i64 x.b, .int .i64 x.c, .int .i64 x.d, .int .i64 x.e, .int .i64 x.f, .int .i64 x.g, .int .i64 x.h, .int .i64 x.i, .int .i64 x.k, .int .i64 x.l, .int .i64 x.m, .int .i64 x.n, .int .i64 x.o] 51))) (h : inB x.t 0 9 = true) (hr : rpB x = true) : Calls Tryd.prog 36 #[.pointer (some ⟨j, 0, none⟩)] w fun e w' => e = .returned (.string ⟨(Lib.join (rpW x) [32]).toArray⟩) ∧ Gr w w' := by
  have hb0 : 0 ≤ x.t ∧ x.t ≤ 9 := by unfold inB at h; simpa using h
  have HV := hid (rpW_is x)
  unfold rpB allF fsR at hr
  simp only [List.all_cons, List.all_nil, Bool.and_eq_true] at hr
  obtain ⟨⟨h1, h2, h3, h4, h5, _⟩, h6⟩ := hr
  have s0 : (txt x.t).size ≤ 21 := txt_size (by omega) (by omega)
  have s1 := txtF_size h1
  have s2 := txtF_size h2
  have s3 := txtF_size h3
  have s4 := txtF_size h4
  have s5 := txtF_size h5
  have s6 : (txtS x.l x.m x.n x.o).size ≤ 100 := by
    obtain ⟨h7, h8⟩ := spB_oks h6
    have a7 := txtF_size h7
    have a8 := txtF_size h8
    unfold txtS
    have : (⟨#[46, 46]⟩ : ByteArray).size = 2 := rfl
    rw [ba_size, ba_size]
    omega
  have HU : Hid (∀ w : World, Calls Tryd.prog 45 #[.int .i64 x.t] w fun e w' => e = .returned (.string (txt x.t)) ∧ Gr w w') := hid fun w => by
    obtain ⟨n, hn⟩ := Int.eq_ofNat_of_zero_le hb0.1
    rw [hn, txt_nat]
    exact sDec n w (by omega)
  have H1 := hid h1; have H2 := hid h2; have H3 := hid h3; have H4 := hid h4; have H5 := hid h5
  have HS := hid fun (w : World) (Y : Hid (CelN w ⟨j, 11, none⟩ ⟨x.l, x.m, x.n, x.o⟩)) => sSpanTxA x.l x.m x.n x.o j 11 w Y h6
  clear h h1 h2 h3 h4 h5 h6 hb0
  obtain ⟨z0, z1, z2, z3, z4, z5, z6, z7, z8, z9, z10, z11, z12, z13, z14⟩ := cells15 X.out
  have _ := ltb X.out
  go_enter Tryd.func36, Tryd.ntmps36
  go_wp2_with fail
  refine wp_reg0 49 (by kernel_rfl) (by kernel_rfl) ?_
  apply Exists.intro
  refine ⟨fun wb hb => ?_, ?_⟩
  · have _ := hb.atF z0; have _ := hb.atF z1; have _ := hb.atF z2; have _ := hb.atF z3; have _ := hb.atF z4; have _ := hb.atF z5; have _ := hb.atF z6; have _ := hb.atF z7; have _ := hb.atF z8; have _ := hb.atF z9; have _ := hb.atF z10; have _ := hb.atF z11; have _ := hb.atF z12; have _ := hb.atF z13; have _ := hb.atF z14
    have YB := fun (m : Nat) (os : Array Obj) => (X.out |> (hb.trans ⟨⟨m, os⟩, rfl⟩ : Gr w (grow (wb.drewN m) os)).keep)
    simp only [headOps, List.contains, List.elem, reduceIte, Bool.false_eq_true]
    repeat (first | go_big_quiet_step (first | (go_at_call 45; exact Calls.of_gr (HU.out _)) | (go_at_call 66; exact Calls.of_gr (HS.out _ (hid (celN_rp (YB _ _))))) | (go_at_call_of 46 (Value.agg #[Value.int IntKind.i64 x.a, Value.int IntKind.i64 x.b]); exact Calls.of_gr (sText x.a x.b _ H1.out)) | (go_at_call_of 46 (Value.agg #[Value.int IntKind.i64 x.c, Value.int IntKind.i64 x.d]); exact Calls.of_gr (sText x.c x.d _ H2.out)) | (go_at_call_of 46 (Value.agg #[Value.int IntKind.i64 x.e, Value.int IntKind.i64 x.f]); exact Calls.of_gr (sText x.e x.f _ H3.out)) | (go_at_call_of 46 (Value.agg #[Value.int IntKind.i64 x.g, Value.int IntKind.i64 x.h]); exact Calls.of_gr (sText x.g x.h _ H4.out)) | (go_at_call_of 46 (Value.agg #[Value.int IntKind.i64 x.i, Value.int IntKind.i64 x.k]); exact Calls.of_gr (sText x.i x.k _ H5.out))) | quiet_step (fail))
    exact wpQuiet_nil rfl
  intro w1 hg1
  have G1 := hid (hg1)
  clear hg1
  go_wp2
  go_ret
  exact ⟨by rw [← HV.out]; rfl, G1.out⟩
set_option maxRecDepth 20000 in
set_option maxHeartbeats 1000000 in
theorem sReport_1 (x : Rpv) (w : World) (h : inB x.t 0 9 = false) : Calls Tryd.prog 13 #[vRp x] w fun e w' => e = .returned (.string ⟨#[]⟩) ∧ Gr w w' := by
  have HT := hid fun (j : Nat) (w : World) (X : Hid (w.heap[j]? = some (.cells #[.int .i64 x.t, .int .i64 x.a, .int .i64 x.b, .int .i64 x.c, .int .i64 x.d, .int .i64 x.e, .int .i64 x.f, .int .i64 x.g, .int .i64 x.h, .int .i64 x.i, .int .i64 x.k, .int .i64 x.l, .int .i64 x.m, .int .i64 x.n, .int .i64 x.o] 51))) => sTold_no x j w X h
  clear h
  go_enter Tryd.func13, Tryd.ntmps13
  go_wp2_with fail
  refine (HT.out _ _ (hid (alloc1 (Gr.refl _)).1)).mono ?_
  rintro e w1 ⟨rfl, hg1⟩
  obtain ⟨x1_0, hz1, g1⟩ := alloc1 hg1
  obtain ⟨_, _, _, _, _, _, _, _, _, _, _, _, _, _, _⟩ := cells15 x1_0
  have _ := fz x1_0
  have _ := ltb x1_0
  have X1_0 := hid x1_0; clear x1_0
  have G1 := hid (g1)
  clear hg1 g1
  go_wp2
  go_ret
  exact ⟨rfl, G1.out⟩
set_option maxRecDepth 20000 in
set_option maxHeartbeats 1000000 in
theorem sReport_2 (x : Rpv) (w : World) (h : inB x.t 0 9 = true) (hr : rpB x = false) : Calls Tryd.prog 13 #[vRp x] w fun e w' => e = .returned (.string ⟨#[]⟩) ∧ Gr w w' := by
  have HT := hid fun (j : Nat) (w : World) (X : Hid (w.heap[j]? = some (.cells #[.int .i64 x.t, .int .i64 x.a, .int .i64 x.b, .int .i64 x.c, .int .i64 x.d, .int .i64 x.e, .int .i64 x.f, .int .i64 x.g, .int .i64 x.h, .int .i64 x.i, .int .i64 x.k, .int .i64 x.l, .int .i64 x.m, .int .i64 x.n, .int .i64 x.o] 51))) => sTold_any x false j w X h hr
  clear h hr
  go_enter Tryd.func13, Tryd.ntmps13
  go_wp2_with fail
  refine (HT.out _ _ (hid (alloc1 (Gr.refl _)).1)).mono ?_
  rintro e w1 ⟨rfl, hg1⟩
  obtain ⟨x1_0, hz1, g1⟩ := alloc1 hg1
  obtain ⟨_, _, _, _, _, _, _, _, _, _, _, _, _, _, _⟩ := cells15 x1_0
  have _ := fz x1_0
  have _ := ltb x1_0
  have X1_0 := hid x1_0; clear x1_0
  have G1 := hid (g1)
  clear hg1 g1
  go_wp2
  go_ret
  exact ⟨rfl, G1.out⟩
set_option maxRecDepth 20000 in
set_option maxHeartbeats 1000000 in
theorem sReport_3 (x : Rpv) (w : World) (h : inB x.t 0 9 = true) (hr : rpB x = true) : Calls Tryd.prog 13 #[vRp x] w fun e w' => e = .returned (.string ⟨(Lib.join (rpW x) [32]).toArray⟩) ∧ Gr w w' := by
  have HT := hid fun (j : Nat) (w : World) (X : Hid (w.heap[j]? = some (.cells #[.int .i64 x.t, .int .i64 x.a, .int .i64 x.b, .int .i64 x.c, .int .i64 x.d, .int .i64 x.e, .int .i64 x.f, .int .i64 x.g, .int .i64 x.h, .int .i64 x.i, .int .i64 x.k, .int .i64 x.l, .int .i64 x.m, .int .i64 x.n, .int .i64 x.o] 51))) => sTold_any x true j w X h hr
  have HR := hid fun (j : Nat) (w : World) (X : Hid (w.heap[j]? = some (.cells #[.int .i64 x.t, .int .i64 x.a, .int .i64 x.b, .int .i64 x.c, .int .i64 x.d, .int .i64 x.e, .int .i64 x.f, .int .i64 x.g, .int .i64 x.h, .int .i64 x.i, .int .i64 x.k, .int .i64 x.l, .int .i64 x.m, .int .i64 x.n, .int .i64 x.o] 51))) => sRpText x j w X h hr
  clear h hr
  go_enter Tryd.func13, Tryd.ntmps13
  go_wp2_with fail
  refine (HT.out _ _ (hid (alloc1 (Gr.refl _)).1)).mono ?_
  rintro e w1 ⟨rfl, hg1⟩
  obtain ⟨x1_0, hz1, g1⟩ := alloc1 hg1
  obtain ⟨_, _, _, _, _, _, _, _, _, _, _, _, _, _, _⟩ := cells15 x1_0
  have _ := fz x1_0
  have _ := ltb x1_0
  have X1_0 := hid x1_0; clear x1_0
  have G1 := hid (g1)
  clear hg1 g1
  go_wp2_with fail
  refine (HR.out _ _ (hid X1_0.out)).mono ?_
  rintro e w2 ⟨rfl, hg2⟩
  have x2_1 := hg2.keep X1_0.out
  obtain ⟨_, _, _, _, _, _, _, _, _, _, _, _, _, _, _⟩ := cells15 x2_1
  have _ := fz x2_1
  have _ := ltb x2_1
  have X2_1 := hid x2_1; clear x2_1
  have G2 := hid (G1.out.trans hg2)
  clear hg2
  go_wp2
  go_ret
  exact ⟨rfl, G2.out⟩
/-- What ReportText gives. -/
theorem bothReportText (x : Rpv) : ∃ S : ByteArray,
    (∀ w : World, Calls Tryd.prog 13 #[vRp x] w fun e w' => e = .returned (.string S) ∧ Gr w w') ∧
    (∀ w : World, Hid (Pow w) → Calls Tryd.prog 15 #[vRp x] w fun e w' => e = .returned (.string S) ∧ Bl w w') := by
  cases h : inB x.t 0 9 with
  | false => exact ⟨⟨#[]⟩, fun w => sReport_1 x w h, fun w _ => iReport_no x w h⟩
  | true =>
    cases hr : rpB x with
    | false => exact ⟨⟨#[]⟩, fun w => sReport_2 x w h hr, fun w T => iReport x _ w T h (hid (by rw [hr]; rfl))⟩
    | true => exact ⟨_, fun w => sReport_3 x w h hr, fun w T => iReport x _ w T h (hid (by rw [hr]; rfl))⟩
end Go.Proofs.YtkeflpcokcfcjaaDoor
