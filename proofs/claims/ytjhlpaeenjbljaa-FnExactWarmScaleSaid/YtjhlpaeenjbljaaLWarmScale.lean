/- The law FnExactWarmScale of the laws package returns true for every scale and every fraction, valid or not; they read behind the call as before it. No condition. -/
import Derived.Test.YtjhlpaeenjbljaaRows
import Derived.Test.YtjhlpaeenjbljaaWg
import Derived.Test.YtjhlpaeenjbljaaMk
import Derived.Test.YtjhlpaeenjbljaaRegL
import Derived.Test.YtjhlpaeenjbljaaRs
import Derived.Test.YtjhlpaeenjbljaaFacts
import Derived.ProofKit
import Derived.Carry
import Derived.Lib.SmallJoins
namespace Go.Proofs.Ytjhlpaeenjbljaa
open Go.RowKit Go.Sort

theorem OwnW.other {w w' : World} {b : Nat} {T : TypeId} {A : Option Addr} {ys : List (Int × Int)} {cs : Array Value} (h : OwnW w A ys) (hb : w.heap[b]? = some (.cells cs T)) (hT : T ≠ 24) (hs : ∀ j, j ≠ b → w'.heap[j]? = w.heap[j]?) : OwnW w' A ys := by
  rcases h with rfl | ⟨g, o, ds, rfl, h1, h2, hc⟩
  · exact .inl rfl
  · refine .inr ⟨g, o, ds, rfl, ?_, h2, hc⟩
    rw [hs g (fun he => ?_)]
    · exact h1
    · subst he
      rw [h1] at hb
      injection hb with e1
      injection e1 with _ e2
      exact hT e2.symm
theorem OwnW.lt {w : World} {A : Option Addr} {ys : List (Int × Int)} (h : OwnW w A ys) : ys = [] ∨ ∀ ad, A = some ad → ad.block < w.heap.size := by
  rcases h with rfl | ⟨g, o, ds, rfl, h1, h2, hc⟩
  · exact .inl rfl
  · exact .inr fun ad he => by cases he; exact ltb h1
theorem rdW_only {w w' : World} {g : Nat} {A : Option Addr} {ys : List (Int × Int)} (h : RdF w A ys) (o : Only g w w') (hne : ys = [] ∨ ∀ ad, A = some ad → ad.block ≠ g) : RdF w' A ys := by
  rcases hne with rfl | hne
  · exact fun k p q hk => by simp at hk
  · exact h.only o hne
set_option maxRecDepth 20000 in
set_option maxHeartbeats 4000000 in
theorem lawWarmScale (a b s t : Int) (A : Option Addr) (cap : Nat) (xs : List (Int × Int)) (u v : Int) (ys : List (Int × Int)) (C : Int) (w : World) (hr : RawF w (.slice A xs.length cap) xs) (hn : xs.length ≤ 1048576) (hys : ys.length ≤ 1048576)
    (hs : ∀ (A : Option Addr) (c : Nat) (w : World), Hid (RdF w A xs) → Calls Try.prog 19 #[scl a b A xs.length c, fr s t] w fun e w' => GivesW w w' e u v ys C)
    (hi : ∀ (A : Option Addr) (c : Nat) (w : World), Hid (RdF w A xs) → Calls Try.prog 21 #[scl a b A xs.length c, fr s t] w fun e w' => GivesW w w' e u v ys C) :
    Calls Try.prog 4 #[scl a b A xs.length cap, fr s t] w fun x w' => x = .returned (.bool true) ∧ Gr w w' := by
  have HS := hid hs; have HI := hid hi; have HR := hid hr
  clear hs hi hr
  go_enter Try.func4, Try.ntmps4
  go_wp2_with fail
  refine (szSc_yes _ _ _ _ _ _ _ (by omega) (by omega)).mono ?_
  rintro e w1 ⟨rfl, hg1⟩
  obtain ⟨x1_0, x1_1, hz1, g1⟩ := alloc2 hg1
  obtain ⟨_, _, _⟩ := cells3 x1_0
  have _ := fz x1_0
  have _ := ltb x1_0
  obtain ⟨_, _⟩ := cells2 x1_1
  have _ := fz x1_1
  have _ := ltb x1_1
  have X1_0 := hid x1_0; clear x1_0
  have X1_1 := hid x1_1; clear x1_1
  have G1 := hid (g1)
  clear hg1 g1
  go_wp2_with fail
  refine wp_regL2s (T := 27) (fun g : Nat => scl a b (some ⟨g, 0, none⟩) xs.length xs.length) (fun g w => w.heap[g]? = some (.cells (flatA xs) 24)) (fun ε : Option Addr × Nat => .tuple #[scl u v ε.1 ys.length ε.2, .int .i64 C]) (fun ε w => OwnW w ε.1 ys ∧ ∀ ad, ε.1 = some ad → w1.heap.size ≤ ad.block) #[.int .i64 0, .int .i64 0, .slice none 0 0] 10 1 23 4 26 8 6 9 27 [0, 0, 0, 0, 1, 2, 2, 2, 0, 2] [1, 4, 5, 6, 7, 8, 9] [0, 1, 2, 3, 4, 5, 6, 7, 8, 9] [0, 1, 2, 3, 4, 8, 9] (by kernel_rfl) (by kernel_rfl) (by kernel_rfl) rfl rfl (by decide) rfl rfl (by simp) rfl rfl (by decide) (fun _ _ => by kernel_rfl) (by kernel_rfl) (fun g g' h => by simpa using h) (fun g w w' h hg => hg.keep h) (fun g w w' b h hb hs => row_other h hb (by decide) hs) (fun ε ε' h => by obtain ⟨A1, c1⟩ := ε; obtain ⟨A2, c2⟩ := ε'; simpa using h) (fun ε w w' h hg => ⟨h.1.keep hg, h.2⟩) (fun ε w w' b h hb hs => ⟨h.1.other hb (by decide) hs, h.2⟩) ?_
  apply Exists.intro; apply Exists.intro; apply Exists.intro; apply Exists.intro
  refine ⟨fun wb hb => ?_, fun o ho wb hb => ?_, fun g wb hb hg => ?_, fun o ho g wb hb hg => ?_, fun g ε wb hb hg ho => ?_, fun g ε => ?_, fun ε => ?_, fun g2 ε2 w2 b2 hg2 _ o2 hb2 v2 => ?_⟩
  · obtain ⟨_, _, _⟩ := hb.at3 X1_0.out
    obtain ⟨_, _⟩ := hb.at2 X1_1.out
    simp only [headOps, List.contains, List.elem, Nat.reduceAdd, Nat.reduceBEq, reduceIte, Bool.false_eq_true, dumOp]
    repeat (first | go_big_quiet_step (first | (go_at_call 13; exact Calls.of_gr (toFrac_any _ _ _))) | quiet_step (fail))
    exact wpQuiet_nil rfl
  · cases ho
    exact ⟨_, _, by kernel_rfl, (toSc_any a b A cap xs wb hn (HR.out.keep (G1.out.trans hb))).mono fun e w' ⟨g, he, hx, _, hg⟩ => ⟨g, he, hx, hg⟩⟩
  · simp only [headOps, List.contains, List.elem, Nat.reduceAdd, Nat.reduceBEq, reduceIte, dumOp]
    repeat (first | go_big_quiet_step (first | fail) | quiet_step (fail))
    exact wpQuiet_nil rfl
  · cases ho
    exact ⟨_, _, by kernel_rfl, (HS.out _ xs.length _ (hid (RdF.of_block hg))).mono fun e w' ⟨A', c', he, hb', ho, hg'⟩ => ⟨(A', c'), he, ⟨ho, fun ad h => Nat.le_trans hb.size (hb' ad h).1⟩, hg'⟩⟩
  · simp only [headOps, List.contains, List.elem, Nat.reduceAdd, Nat.reduceBEq, reduceIte, Bool.false_eq_true, dumOp]
    repeat (first | go_big_quiet_step (first | (fail)) | quiet_step (fail))
    exact wpQuiet_nil rfl
  · exact ⟨rfl, rfl⟩
  · exact ⟨rfl, by simp [Value.oneCell']⟩
  simp only [List.drop_succ_cons, List.drop_zero]
  have L2 := hid o2.1.lt; have O2 := hid o2.1.rd; have V2 := hid v2; have G2 := hid (G1.out.trans hg2); have BA2 := hid (hg2.keep X1_0.out); have BB2 := hid (hg2.keep X1_1.out)
  have Z2 := hid (ltb v2); have HW2 := hid hg2.size
  clear hg2 o2 v2 hb2
  obtain ⟨_, _, _⟩ := cells3 BA2.out
  have _ := ltb BA2.out
  go_wp2_with fail
  refine (toSc_any _ _ _ _ xs _ hn (HR.out.keep G2.out)).mono ?_
  rintro e w3 ⟨g3, rfl, x3, b3, hg3⟩
  have X3 := hid x3; have Z3 := hid (ltb x3); have H3 := hid b3; have O3 := hid (O2.out.keep hg3); have V3 := hid (hg3.keep V2.out); have G3 := hid (G2.out.trans hg3); have BA3 := hid (hg3.keep BA2.out); have BB3 := hid (hg3.keep BB2.out)
  have K3 := hid (alloc1 (w := w3) (A := (.cells #[.int .i64 a, .int .i64 b, .slice (some ⟨g3, 0, none⟩) xs.length xs.length] 27)) (Gr.refl _)).1
  clear x3 b3 hg3 O2 V2 BA2 BB2
  go_wp2_with fail
  refine wp_regL1s (T := 27) (fun ε : Option Addr × Nat => .tuple #[scl u v ε.1 ys.length ε.2, .int .i64 C]) (fun ε w => OwnW w ε.1 ys ∧ ∀ ad, ε.1 = some ad → w3.heap.size + 1 ≤ ad.block) #[.int .i64 0, .int .i64 0, .slice none 0 0] 9 3 35 7 9 8 36 [0, 0, 0, 0, 1, 1, 1, 0, 1] [3, 4, 5, 6, 7, 8] [0, 1, 2, 3, 7, 8] (by kernel_rfl) (by kernel_rfl) (by kernel_rfl) rfl (by decide) rfl rfl (by simp) rfl rfl (by decide) (fun _ _ => by kernel_rfl) (by kernel_rfl) (fun ε ε' h => by obtain ⟨A1, c1⟩ := ε; obtain ⟨A2, c2⟩ := ε'; simpa using h) (fun ε w w' h hg => ⟨h.1.keep hg, h.2⟩) (fun ε w w' b h hb hs => ⟨h.1.other hb (by decide) hs, h.2⟩) ?_
  apply Exists.intro; apply Exists.intro; apply Exists.intro
  refine ⟨fun wb hb => ?_, fun o ho wb hb => ?_, fun ε wb hb ho => ?_, fun ε => ?_, fun ε => ?_, fun ε5 w5 b5 hg5 o5 hb5 v5 => ?_⟩
  · obtain ⟨_, _, _⟩ := hb.at3 K3.out
    obtain ⟨_, _⟩ := hb.at2 (((Gr.refl w3).al (.cells #[.int .i64 a, .int .i64 b, .slice (some ⟨g3, 0, none⟩) xs.length xs.length] 27)).keep BB3.out)
    simp only [headOps, List.contains, List.elem, Nat.reduceAdd, Nat.reduceBEq, reduceIte, Bool.false_eq_true, dumOp]
    repeat (first | go_big_quiet_step (first | (go_at_call 13; exact Calls.of_gr (toFrac_any _ _ _))) | quiet_step (fail))
    exact wpQuiet_nil rfl
  · cases ho
    exact ⟨_, _, by kernel_rfl, (HI.out _ xs.length _ (hid (RdF.of_block (hb.keep (((Gr.refl w3).al (.cells #[.int .i64 a, .int .i64 b, .slice (some ⟨g3, 0, none⟩) xs.length xs.length] 27)).keep X3.out))))).mono fun e w' ⟨A', c', he, hb', ho, hg'⟩ => ⟨(A', c'), he, ⟨ho, fun ad h => Nat.le_trans (by have := hb.size; simpa using this) (hb' ad h).1⟩, hg'⟩⟩
  · simp only [headOps, List.contains, List.elem, Nat.reduceAdd, Nat.reduceBEq, reduceIte, Bool.false_eq_true, dumOp]
    repeat (first | go_big_quiet_step (first | (fail)) | quiet_step (fail))
    exact wpQuiet_nil rfl
  · exact ⟨rfl, rfl⟩
  · exact ⟨rfl, by simp [Value.oneCell']⟩
  simp only [List.drop_succ_cons, List.drop_zero]
  have hal := ((Gr.refl w3).al (.cells #[.int .i64 a, .int .i64 b, .slice (some ⟨g3, 0, none⟩) xs.length xs.length] 27)).trans hg5
  have LG := hid o5.2; have OG5 := hid o5.1; have P5 := hid v5; have HB5 := hid (show w3.heap.size + 1 ≤ b5 by simpa using hb5)
  have X5 := hid (hal.keep X3.out); have V5 := hid (hal.keep V3.out); have O5 := hid (O3.out.keep hal); have BA5 := hid (hal.keep BA3.out); have BB5 := hid (hal.keep BB3.out); have K5 := hid (hg5.keep K3.out); have G5 := hid (G3.out.trans hal)
  clear hal hg5 o5 v5 hb5 X3 V3 O3 BA3 BB3 K3
  obtain ⟨_, _, _⟩ := cells3 V5.out
  have _ := ltb V5.out
  obtain ⟨_, _, _⟩ := cells3 P5.out
  have _ := ltb P5.out
  go_wp2_with fail
  refine (eqSc_any _ _ _ _ _ _ ys _ (hid OG5.out.rd) O5 hys).mono ?_
  rintro e w6 ⟨rfl, hg6⟩
  have OG6 := hid (OG5.out.keep hg6); have O6 := hid (O5.out.keep hg6); have X6 := hid (hg6.keep X5.out); have V6 := hid (hg6.keep V5.out); have P6 := hid (hg6.keep P5.out); have BA6 := hid (hg6.keep BA5.out); have BB6 := hid (hg6.keep BB5.out); have K6 := hid (hg6.keep K5.out); have G6 := hid (G5.out.trans hg6)
  clear hg6 OG5 O5 X5 V5 P5 BA5 BB5 K5
  go_wp2_with fail
  refine wp_regG1 4 2 49 [3] [2, 3] [0, 1, 2] (fun g => scl a b (some ⟨g, 0, none⟩) xs.length xs.length) (.cells (flatA xs) 24) (by kernel_rfl) (by kernel_rfl) (by kernel_rfl) rfl rfl ?_
  apply Exists.intro; apply Exists.intro
  refine ⟨fun wb hb => ?_, ?_, fun g wb hb xg => ?_, fun g7 w7 hg7 _ _ => ?_⟩
  · obtain ⟨_, _, _⟩ := hb.at3 BA6.out
    obtain ⟨_, _, _⟩ := hb.at3 K6.out
    simp only [headOps, List.contains, List.elem, Nat.reduceAdd, Nat.reduceBEq, reduceIte, Bool.false_eq_true, dumOp]
    repeat (first | go_big_quiet_step (first | (fail)) | quiet_step (fail))
    exact wpQuiet_nil rfl
  · intro o ho wb hb
    cases ho
    exact ⟨_, _, by kernel_rfl, toSc_any a b A cap xs wb hn (HR.out.keep (G6.out.trans hb))⟩
  · obtain ⟨_, _, _⟩ := hb.at3 BA6.out
    obtain ⟨_, _, _⟩ := hb.at3 K6.out
    simp only [headOps, List.contains, List.elem, Nat.reduceAdd, Nat.reduceBEq, reduceIte, Bool.false_eq_true, dumOp]
    repeat (first | go_big_quiet_step (first | (go_at_call 15; exact Calls.of_gr (eqSc_any _ _ _ _ _ _ xs _ (hid ((RdF.of_block X6.out).keep (hb.trans ⟨⟨_, _⟩, rfl⟩))) (hid ((RdF.of_block xg).keep ⟨⟨_, _⟩, rfl⟩)) hn))) | quiet_step (fail))
    exact wpQuiet_nil rfl
  have OG7 := hid (OG6.out.keep hg7); have O7 := hid (O6.out.keep hg7); have X7 := hid (hg7.keep X6.out); have V7 := hid (hg7.keep V6.out); have P7 := hid (hg7.keep P6.out); have BA7 := hid (hg7.keep BA6.out); have BB7 := hid (hg7.keep BB6.out); have K7 := hid (hg7.keep K6.out); have G7 := hid (G6.out.trans hg7)
  clear hg7 OG6 O6 X6 V6 P6 BA6 BB6 K6
  obtain ⟨_, _, _⟩ := cells3 K7.out
  simp only [List.drop_succ_cons, List.drop_zero]
  go_wp2_with fail
  refine (markSc_any a b g3 xs.length xs.length 1 (flatA xs) _ _ X7 (by unfold flatA; simp [flatL_len]) hn (by omega) (by omega)).mono ?_
  rintro e w8 ⟨rfl, _, on8⟩
  have OG8 := hid (OG7.out.only on8 (fun ad he => by have := LG.out ad he; have := Z3.out; omega))
  have R8 := hid (rdW_only O7.out on8 (L2.out.imp id fun h ad he => Nat.ne_of_lt (Nat.lt_of_lt_of_le (h ad he) H3.out)))
  have V8 := hid (on8.1 _ _ (Nat.ne_of_lt (Nat.lt_of_lt_of_le Z2.out H3.out)) V7.out)
  have P8 := hid (on8.1 _ _ (by have := HB5.out; have := Z3.out; omega) P7.out)
  have BA8 := hid (on8.1 _ _ (Nat.ne_of_lt (Nat.lt_of_lt_of_le (ltb X1_0.out) (Nat.le_trans HW2.out H3.out))) BA7.out)
  have BB8 := hid (on8.1 _ _ (Nat.ne_of_lt (Nat.lt_of_lt_of_le (ltb X1_1.out) (Nat.le_trans HW2.out H3.out))) BB7.out)
  have G8 := hid (on8.2 w G7.out (Nat.le_trans G2.out.size H3.out))
  clear on8 OG7 O7 X7 V7 P7 BA7 BB7 K7
  obtain ⟨_, _, _⟩ := cells3 V8.out
  have _ := ltb V8.out
  obtain ⟨_, _, _⟩ := cells3 P8.out
  have _ := ltb P8.out
  go_wp2_with fail
  refine (eqSc_any _ _ _ _ _ _ ys _ (hid OG8.out.rd) R8 hys).mono ?_
  rintro e w9 ⟨rfl, g9⟩
  have OG9 := hid (OG8.out.keep g9); have R9 := hid (R8.out.keep g9); have V9 := hid (g9.keep V8.out); have P9 := hid (g9.keep P8.out); have BA9 := hid (g9.keep BA8.out); have BB9 := hid (g9.keep BB8.out); have G9 := hid (G8.out.trans g9)
  clear g9 OG8 R8 V8 P8 BA8 BB8
  obtain ⟨_, _, _⟩ := cells3 P9.out
  have _ := ltb P9.out
  go_wp2_with fail
  refine (markOwnW _ _ _ _ ys (w3.heap.size + 1) 1 _ OG9 LG.out hys (by omega) (by omega)).mono ?_
  rintro e w10 ⟨rfl, ⟨gg, hgg, on10⟩, m10, ot10⟩
  have M10 := hid m10
  have R10 := hid (rdW_only R9.out on10 (L2.out.imp id fun h ad he => Nat.ne_of_lt (Nat.lt_of_lt_of_le (Nat.lt_of_lt_of_le (h ad he) (Nat.le_trans H3.out (Nat.le_of_lt Z3.out))) (Nat.le_trans (Nat.le_succ _) hgg))))
  have V10 := hid (ot10 _ _ _ (by decide) V9.out)
  have P10 := hid (ot10 _ _ _ (by decide) P9.out)
  have BA10 := hid (ot10 _ _ _ (by decide) BA9.out)
  have BB10 := hid (ot10 _ _ _ (by decide) BB9.out)
  have G10 := hid (on10.2 w G9.out (Nat.le_trans G3.out.size (Nat.le_trans (Nat.le_succ _) hgg)))
  clear on10 m10 ot10 OG9 R9 V9 P9 BA9 BB9
  obtain ⟨_, _, _⟩ := cells3 P10.out
  have _ := ltb P10.out
  go_wp2_with fail
  refine (heldSc_any _ _ _ _ _ _ _ M10 hys (by omega) (by omega)).mono ?_
  rintro e w11 ⟨rfl, g11⟩
  have M11 := hid (M10.out.keep g11); have R11 := hid (R10.out.keep g11); have V11 := hid (g11.keep V10.out); have P11 := hid (g11.keep P10.out); have BA11 := hid (g11.keep BA10.out); have BB11 := hid (g11.keep BB10.out); have G11 := hid (G10.out.trans g11)
  clear g11 M10 R10 V10 P10 BA10 BB10
  go_wp2_with fail
  refine wp_regL2s (T := 27) (fun g : Nat => scl a b (some ⟨g, 0, none⟩) xs.length xs.length) (fun g w => w.heap[g]? = some (.cells (flatA xs) 24)) (fun ε : Option Addr × Nat => .tuple #[scl u v ε.1 ys.length ε.2, .int .i64 C]) (fun ε w => OwnW w ε.1 ys ∧ ∀ ad, ε.1 = some ad → w11.heap.size ≤ ad.block) #[.int .i64 0, .int .i64 0, .slice none 0 0] 10 1 81 4 84 8 14 9 85 [0, 0, 0, 0, 1, 2, 2, 2, 0, 2] [1, 4, 5, 6, 7, 8, 9] [0, 1, 2, 3, 4, 5, 6, 7, 8, 9] [0, 1, 2, 3, 4, 8, 9] (by kernel_rfl) (by kernel_rfl) (by kernel_rfl) rfl rfl (by decide) rfl rfl (by simp) rfl rfl (by decide) (fun _ _ => by kernel_rfl) (by kernel_rfl) (fun g g' h => by simpa using h) (fun g w w' h hg => hg.keep h) (fun g w w' b h hb hs => row_other h hb (by decide) hs) (fun ε ε' h => by obtain ⟨A1, c1⟩ := ε; obtain ⟨A2, c2⟩ := ε'; simpa using h) (fun ε w w' h hg => ⟨h.1.keep hg, h.2⟩) (fun ε w w' b h hb hs => ⟨h.1.other hb (by decide) hs, h.2⟩) ?_
  apply Exists.intro; apply Exists.intro; apply Exists.intro; apply Exists.intro
  refine ⟨fun wb hb => ?_, fun o ho wb hb => ?_, fun g wb hb hg => ?_, fun o ho g wb hb hg => ?_, fun g ε wb hb hg ho => ?_, fun g ε => ?_, fun ε => ?_, fun g13 ε13 w13 b13 hg13 _ o13 _ v13 => ?_⟩
  · obtain ⟨_, _, _⟩ := hb.at3 BA11.out
    obtain ⟨_, _⟩ := hb.at2 BB11.out
    simp only [headOps, List.contains, List.elem, Nat.reduceAdd, Nat.reduceBEq, reduceIte, Bool.false_eq_true, dumOp]
    repeat (first | go_big_quiet_step (first | (go_at_call 13; exact Calls.of_gr (toFrac_any _ _ _))) | quiet_step (fail))
    exact wpQuiet_nil rfl
  · cases ho
    exact ⟨_, _, by kernel_rfl, (toSc_any a b A cap xs wb hn (HR.out.keep (G11.out.trans hb))).mono fun e w' ⟨g, he, hx, _, hg⟩ => ⟨g, he, hx, hg⟩⟩
  · simp only [headOps, List.contains, List.elem, Nat.reduceAdd, Nat.reduceBEq, reduceIte, dumOp]
    repeat (first | go_big_quiet_step (first | fail) | quiet_step (fail))
    exact wpQuiet_nil rfl
  · cases ho
    exact ⟨_, _, by kernel_rfl, (HI.out _ xs.length _ (hid (RdF.of_block hg))).mono fun e w' ⟨A', c', he, hb', ho, hg'⟩ => ⟨(A', c'), he, ⟨ho, fun ad h => Nat.le_trans hb.size (hb' ad h).1⟩, hg'⟩⟩
  · simp only [headOps, List.contains, List.elem, Nat.reduceAdd, Nat.reduceBEq, reduceIte, Bool.false_eq_true, dumOp]
    repeat (first | go_big_quiet_step (first | (fail)) | quiet_step (fail))
    exact wpQuiet_nil rfl
  · exact ⟨rfl, rfl⟩
  · exact ⟨rfl, by simp [Value.oneCell']⟩
  simp only [List.drop_succ_cons, List.drop_zero]
  have RH := hid o13.1.rd; have V13 := hid v13; have M13 := hid (M11.out.keep hg13); have R13 := hid (R11.out.keep hg13); have W13 := hid (hg13.keep V11.out); have P13 := hid (hg13.keep P11.out); have G13 := hid (G11.out.trans hg13)
  clear o13 v13 hg13 M11 R11 V11 P11 BA11 BB11
  obtain ⟨_, _, _⟩ := cells3 V13.out
  have _ := ltb V13.out
  obtain ⟨_, _, _⟩ := cells3 W13.out
  have _ := ltb W13.out
  go_wp2_with fail
  refine (eqSc_any _ _ _ _ _ _ ys _ RH R13 hys).mono ?_
  rintro e w14 ⟨rfl, g14⟩
  have M14 := hid (M13.out.keep g14); have P14 := hid (g14.keep P13.out); have G14 := hid (G13.out.trans g14); clear g14 M13 R13 RH P13
  obtain ⟨_, _, _⟩ := cells3 P14.out
  have _ := ltb P14.out
  go_wp2_with fail
  refine (heldSc_any _ _ _ _ _ _ _ M14 hys (by omega) (by omega)).mono ?_
  rintro e w15 ⟨rfl, g15⟩
  have G15 := hid (G14.out.trans g15); clear g15 M14
  go_wp2_with fail
  go_ret
  exact ⟨rfl, G15.out⟩
set_option maxRecDepth 20000 in
set_option maxHeartbeats 400000 in
theorem lawWarmScale_big (a b s t : Int) (A : Option Addr) (n cap : Nat) (w : World) (h : 1048576 < n) (h2 : n ≤ 9223372036854775807) :
    Calls Try.prog 4 #[scl a b A n cap, fr s t] w fun e w' => e = .returned (.bool true) ∧ Gr w w' := by
  go_enter Try.func4, Try.ntmps4
  go_wp2_with fail
  refine (szSc_no _ _ _ _ _ _ _ (by omega) h2 (by omega) (by omega)).mono ?_
  rintro e w1 ⟨rfl, hg1⟩
  obtain ⟨x1_0, x1_1, hz1, g1⟩ := alloc2 hg1
  obtain ⟨_, _, _⟩ := cells3 x1_0
  have _ := fz x1_0
  have _ := ltb x1_0
  obtain ⟨_, _⟩ := cells2 x1_1
  have _ := fz x1_1
  have _ := ltb x1_1
  have X1_0 := hid x1_0; clear x1_0
  have X1_1 := hid x1_1; clear x1_1
  have G1 := hid (g1)
  clear hg1 g1
  go_wp2
  go_ret
  exact ⟨rfl, G1.out⟩
open Go.ChangeShapes Go.WideShapes Go.ChangeAt Go.Joins
theorem laidOutWarmScale : laidOutB Try.prog = true := by as_aux_lemma => kernel_rfl
set_option maxRecDepth 100000 in
theorem liftedWarmScale (os : Os) (started : os.Started) (H : Type) (enc : TypeId × Value → H) :
    ReturnsInHanded {} Try.checked os 4 .any (Rows.fnExactWarmScaleSpec.pre6 enc Try.prog Try.f4 Rows.fnExactWarmScaleRow.domain false) (Rows.fnExactWarmScaleSpec.post enc Try.prog Try.f4 false true false false) := by
  refine returnsInHanded_of_change (C := Try.checked) ownNone started (by kernel_rfl) Try.func4
    (ChangeSpec.witness6 (enc := enc) (C := Try.checked) false ⟨#[], #[.agg #[.int .i64 0, .int .i64 0, .slice none 0 0], .agg #[.int .i64 0, .int .i64 0]], []⟩ 8 (by kernel_rfl) (by kernel_rfl) (by kernel_rfl) (by kernel_rfl)) ?_
  intro W base args ds gs before hval0 hW _ _
  have hval : ∀ (j : Nat) t v, Try.f4.params[j]? = some t → args[j]? = some v → Value.okWide Try.prog W .any base t v := hval0
  have hW' := hW
  obtain ⟨p, q, hA0, hV, rfl, _, _⟩ := hW
  have hA : DataW.TrodAll enc Try.prog W 0 (fun _ => true) true Try.f4.params.toList args.toList ds p := hA0
  rw [Try.params4] at hA hval
  obtain ⟨u0, u1, d0, d1, p0, p1, rfl, rfl, rfl, h0, h1⟩ := trodAll_two hA
  obtain ⟨rfl, rfl⟩ := trodVars_none hV
  obtain ⟨s, t, rfl, rfl, rfl, wp, wq⟩ := open_frac (hval 1 23 u1 rfl rfl) h1
  clear hA0 hval0
  simp only [List.append_nil] at hW'
  have hlt : ∀ x ∈ p0, x.block < W.heap.size := fun x hx => by simpa using hW'.lt x hx
  have done : ∀ (e : Ending) (W' : World), e = .returned (.bool true) ∧ Gr W W' → ∃ v, e = .returned v ∧ Rows.fnExactWarmScaleSpec.post enc Try.prog Try.f4 false true false false W #[u0, fr s t] v W' := fun e W' ⟨he, hg⟩ => by
    subst he
    exact ⟨_, rfl, _, _, _, [], p0, [], hW', trodAll_mk1 (shut_bool Try.underlying4 _), (by have hta := trodAll_mk2 (Below.trod laidOutWarmScale (by kernel_rfl) (of_decide_eq_true (by kernel_rfl)) h0 hg.below hlt) (shut_frac wp wq); simp only [List.append_nil] at hta; exact hta), rfl, hg.below.frame _, fun h => by cases h⟩
  obtain ⟨a, b, A, n, cap, rfl, hmax, xs, rfl, hraw⟩ := open_scale (hval 0 36 u0 rfl rfl) h0
  by_cases hn : xs.length ≤ 1048576
  · obtain ⟨u, v, ys, C, hys, hs, hi⟩ := bothWarmScale a b s t xs hn
    exact (lawWarmScale a b s t A cap xs u v ys C W hraw hn hys hs hi).mono done
  · exact (lawWarmScale_big a b s t A xs.length cap W (by omega) hmax).mono done

set_option maxHeartbeats 2000000 in
theorem closedWarmScale : joinedFacts Try.pinned.checked.prog 4 Try.f4 Rows.fnExactWarmScaleSpec Rows.fnExactWarmScaleRow = true := by
  unfold joinedFacts
  refine Bool.and_eq_true_iff.2 ⟨?_, by as_aux_lemma => kernel_rfl⟩
  refine Bool.and_eq_true_iff.2 ⟨?_, by as_aux_lemma => kernel_rfl⟩
  refine Bool.and_eq_true_iff.2 ⟨?_, by as_aux_lemma => kernel_rfl⟩
  refine Bool.and_eq_true_iff.2 ⟨?_, by as_aux_lemma => kernel_rfl⟩
  refine Bool.and_eq_true_iff.2 ⟨?_, by rw [fact_make]; rfl⟩
  refine Bool.and_eq_true_iff.2 ⟨?_, by rw [fact_final]; rfl⟩
  refine Bool.and_eq_true_iff.2 ⟨?_, fact_enters⟩
  refine Bool.and_eq_true_iff.2 ⟨?_, by as_aux_lemma => kernel_rfl⟩
  refine Bool.and_eq_true_iff.2 ⟨?_, by as_aux_lemma => kernel_rfl⟩
  refine Bool.and_eq_true_iff.2 ⟨?_, by as_aux_lemma => kernel_rfl⟩
  refine Bool.and_eq_true_iff.2 ⟨?_, by as_aux_lemma => kernel_rfl⟩
  refine Bool.and_eq_true_iff.2 ⟨?_, by as_aux_lemma => kernel_rfl⟩
  refine Bool.and_eq_true_iff.2 ⟨?_, by as_aux_lemma => kernel_rfl⟩
  refine Bool.and_eq_true_iff.2 ⟨?_, by as_aux_lemma => kernel_rfl⟩
  refine Bool.and_eq_true_iff.2 ⟨?_, by as_aux_lemma => kernel_rfl⟩
  refine Bool.and_eq_true_iff.2 ⟨?_, by as_aux_lemma => kernel_rfl⟩
  refine Bool.and_eq_true_iff.2 ⟨?_, by as_aux_lemma => kernel_rfl⟩
  refine Bool.and_eq_true_iff.2 ⟨?_, by as_aux_lemma => kernel_rfl⟩
  refine Bool.and_eq_true_iff.2 ⟨?_, by as_aux_lemma => kernel_rfl⟩
  refine Bool.and_eq_true_iff.2 ⟨?_, by as_aux_lemma => kernel_rfl⟩
  refine Bool.and_eq_true_iff.2 ⟨?_, by as_aux_lemma => kernel_rfl⟩
  refine Bool.and_eq_true_iff.2 ⟨?_, by as_aux_lemma => kernel_rfl⟩
  refine Bool.and_eq_true_iff.2 ⟨?_, by as_aux_lemma => kernel_rfl⟩
  refine Bool.and_eq_true_iff.2 ⟨?_, by as_aux_lemma => kernel_rfl⟩
  refine Bool.and_eq_true_iff.2 ⟨?_, by as_aux_lemma => kernel_rfl⟩
  refine Bool.and_eq_true_iff.2 ⟨?_, by as_aux_lemma => kernel_rfl⟩
  refine Bool.and_eq_true_iff.2 ⟨?_, by as_aux_lemma => kernel_rfl⟩
  refine Bool.and_eq_true_iff.2 ⟨?_, by as_aux_lemma => kernel_rfl⟩
  refine Bool.and_eq_true_iff.2 ⟨?_, by as_aux_lemma => kernel_rfl⟩
  refine Bool.and_eq_true_iff.2 ⟨?_, by as_aux_lemma => kernel_rfl⟩
  as_aux_lemma => kernel_rfl
theorem warmScale_holds : Rows.FnExactWarmScaleSaid :=
  OpenClaim.holds_of_wide 4 Try.f4 rfl rfl rfl rfl rfl rfl rfl ⟨rfl, rfl, rfl, rfl, rfl⟩ rfl rfl rfl rfl rfl (by as_aux_lemma => kernel_rfl) Try.func4 closedWarmScale
    (of_decide_eq_true (by as_aux_lemma => kernel_rfl)) (by unfold Func.isWrapper; rw [if_neg (by decide +kernel)]; exact ⟨rfl, rfl⟩)
    (fun os started H enc _ => liftedWarmScale os started H enc)
#print axioms warmScale_holds
end Go.Proofs.Ytjhlpaeenjbljaa
