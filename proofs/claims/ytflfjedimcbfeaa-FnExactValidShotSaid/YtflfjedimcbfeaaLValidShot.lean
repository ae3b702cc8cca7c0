/- The law FnExactValidShot of the laws package returns true for every bench and all other arguments, valid or not; they read behind the call as before it. No condition. -/
import Derived.Test.YtflfjedimcbfeaaRows
import Derived.Test.YtflfjedimcbfeaaBj
import Derived.Test.YtflfjedimcbfeaaBh
import Derived.Test.YtflfjedimcbfeaaBo
import Derived.Test.YtflfjedimcbfeaaRd
import Derived.Test.YtflfjedimcbfeaaRegL
import Derived.Test.YtflfjedimcbfeaaFacts
import Derived.ProofKit
import Derived.Carry
import Derived.ChangeMaps5
import Derived.Lib.SmallJoins
namespace Go.Proofs.Ytflfjedimcbfeaa
open Go.RowKit Go.Sort

set_option maxRecDepth 20000 in
set_option maxHeartbeats 4000000 in
theorem lawValidShot (a b : Int) (A : Option Addr) (cap : Nat) (xs : List (Int × Int)) (N : Int) (kb : Bool) (u v : Int) (B : Option Addr) (capB : Nat) (ts : List Tgv) (h0 h1 h2 h3 h4 : Int) (R0 : Bool) (q : Int) (w : World) (hr : RawF w (.slice A xs.length cap) xs) (hrT : RawTg w (.slice B ts.length capB) ts) (hn : xs.length ≤ 1048576) (hm : ts.length ≤ 1048576) (hz : ∀ x ∈ ts, x.nm.size ≤ 9223372036854775807) (hq : szToB xs ts 1048576 = q) (hq0 : 0 ≤ q)
    (hs : ∀ (A : Option Addr) (g c d : Nat) (w : World), xs.length ≤ c → ts.length ≤ d → Hid (RdF w A xs) → Hid (RdTg w (some ⟨g, 0, none⟩) ts) → Calls Try.prog 18 #[bnc a b A xs.length c N kb u v (some ⟨g, 0, none⟩) ts.length d, sho h0 h1 h2 h3 h4] w fun x w' => x = .returned (.bool R0) ∧ Gr w w')
    (hi : ∀ (A : Option Addr) (g c d : Nat) (w : World), xs.length ≤ c → ts.length ≤ d → Hid (RdF w A xs) → Hid (RdTg w (some ⟨g, 0, none⟩) ts) → Calls Try.prog 20 #[bnc a b A xs.length c N kb u v (some ⟨g, 0, none⟩) ts.length d, sho h0 h1 h2 h3 h4] w fun x w' => x = .returned (.bool R0) ∧ Gr w w') :
    Calls Try.prog 6 #[bnc a b A xs.length cap N kb u v B ts.length capB, sho h0 h1 h2 h3 h4] w fun x w' => x = .returned (.bool true) ∧ Gr w w' := by
  have HS := hid hs; have HI := hid hi; have HR := hid hr; have HRT := hid hrT; have HZ := hid hz; have HQ := hid hq
  clear hs hi hr hrT hz hq
  go_enter Try.func6, Try.ntmps6
  go_wp2_with fail
  refine (szBn_is _ _ _ _ xs _ _ _ _ _ _ ts _ _ _ (HRT.out.keep (((Gr.refl w).al _).al _)) (by omega) (by omega) HZ.out (by omega) (by omega) HQ.out).mono ?_
  rintro e w1 ⟨rfl, hg1⟩
  obtain ⟨x1_0, x1_1, hz1, g1⟩ := alloc2 hg1
  obtain ⟨_, _, _, _, _, _, _, _⟩ := cells8 x1_0
  have _ := fz x1_0
  have _ := ltb x1_0
  obtain ⟨_, _, _, _, _⟩ := cells5 x1_1
  have _ := fz x1_1
  have _ := ltb x1_1
  have X1_0 := hid x1_0; clear x1_0
  have X1_1 := hid x1_1; clear x1_1
  have G1 := hid (g1)
  clear hg1 g1
  have B1 := hid X1_0.out; have J1 := hid X1_1.out
  go_wp2_with fail
  refine wp_regL1 (fun g : Nat × Nat => bnc a b (some ⟨g.1, 0, none⟩) xs.length xs.length N kb u v (some ⟨g.2, 0, none⟩) ts.length ts.length) (fun g w => w.heap[g.1]? = some (.cells (flatA xs) 34) ∧ w.heap[g.2]? = some (.cells (rowTg ts []) 80)) 5 1 15 [0, 0, 0, 0, 1] [1, 4] [0, 1, 2, 3] (by kernel_rfl) (by kernel_rfl) (by kernel_rfl) rfl (by decide) (fun g g' h => by obtain ⟨g1, g2⟩ := g; obtain ⟨g1', g2'⟩ := g'; simpa using h) (fun g w w' h hg => ⟨hg.keep h.1, hg.keep h.2⟩) ?_
  apply Exists.intro; apply Exists.intro
  refine ⟨fun wb hb => ?_, fun o ho wb hb => ?_, fun g wb hb hg => ?_, fun g3 w3 hg3 x3 => ?_⟩
  · obtain ⟨_, _, _, _, _, _, _, _⟩ := hb.at8 B1.out
    obtain ⟨_, _, _, _, _⟩ := hb.at5 J1.out
    simp only [headOps, List.contains, List.elem, Nat.reduceAdd, Nat.reduceBEq, reduceIte, Bool.false_eq_true, dumOp]
    repeat (first | go_big_quiet_step (first | (go_at_call 19; exact Calls.of_gr (toSho_any _ _ _ _ _ _))) | quiet_step (fail))
    exact wpQuiet_nil rfl
  · cases ho
    exact ⟨_, _, by kernel_rfl, (toBn_any _ _ _ _ xs _ _ _ _ _ _ ts wb hn hm (HR.out.keep (G1.out.trans hb)) (HRT.out.keep (G1.out.trans hb))).mono fun e w' ⟨g1, g2, he, hx, _, hg⟩ => ⟨(g1, g2), he, ⟨hx.1, hx.2.1⟩, hg⟩⟩
  · have HX := hid hg
    simp only [headOps, List.contains, List.elem, Nat.reduceAdd, Nat.reduceBEq, reduceIte, Bool.false_eq_true, dumOp]
    repeat (first | go_big_quiet_step (first | (go_at_call 18; exact Calls.of_gr (HS.out _ _ _ _ _ (Nat.le_refl _) (Nat.le_refl _) (hid (RdF.of_block (Gr.keep (w := wb) ⟨⟨_, _⟩, rfl⟩ HX.out.1))) (hid (RdTg.of_block (Gr.keep (w := wb) ⟨⟨_, _⟩, rfl⟩ HX.out.2)))))) | quiet_step (fail))
    exact wpQuiet_nil rfl
  simp only [List.drop_succ_cons, List.drop_zero]
  have B3 := hid (hg3.keep B1.out); have J3 := hid (hg3.keep J1.out); have G3 := hid (G1.out.trans hg3)
  clear hg3 x3
  obtain ⟨_, _, _, _, _, _, _, _⟩ := cells8 B3.out
  have _ := ltb B3.out
  go_wp2_with fail
  refine (toBn_any _ _ _ _ xs _ _ _ _ _ _ ts _ hn hm (HR.out.keep G3.out) (HRT.out.keep G3.out)).mono ?_
  rintro x w4 ⟨g3, g4, rfl, ⟨x4, t4, _⟩, _, hg4⟩
  have X4 := hid x4; have T4 := hid t4; have B4 := hid (hg4.keep B3.out); have G4 := hid (G3.out.trans hg4); have J4 := hid (hg4.keep J3.out)
  clear x4 t4 hg4
  obtain ⟨_, _, _, _, _⟩ := cells5 J4.out
  have _ := ltb J4.out
  go_wp2_with fail
  have K4 := hid (alloc1 (w := w4) (A := (.cells (bncA a b (some ⟨g3, 0, none⟩) xs.length xs.length N kb u v (some ⟨g4, 0, none⟩) ts.length ts.length) 41)) (Gr.refl _)).1; have J4b := hid (((Gr.refl w4).al (.cells (bncA a b (some ⟨g3, 0, none⟩) xs.length xs.length N kb u v (some ⟨g4, 0, none⟩) ts.length ts.length) 41)).keep J4.out); have X4b := hid (((Gr.refl w4).al (.cells (bncA a b (some ⟨g3, 0, none⟩) xs.length xs.length N kb u v (some ⟨g4, 0, none⟩) ts.length ts.length) 41)).keep X4.out); have T4b := hid (((Gr.refl w4).al (.cells (bncA a b (some ⟨g3, 0, none⟩) xs.length xs.length N kb u v (some ⟨g4, 0, none⟩) ts.length ts.length) 41)).keep T4.out)
  refine wp_reg0 4 (by kernel_rfl) (by kernel_rfl) ?_
  apply Exists.intro
  refine ⟨fun wb hb => ?_, ?_⟩
  · obtain ⟨_, _, _, _, _, _, _, _⟩ := hb.at8 K4.out
    obtain ⟨_, _, _, _, _⟩ := hb.at5 J4b.out
    have HB := hid hb
    simp only [headOps, List.contains, List.elem, reduceIte, Bool.false_eq_true]
    repeat (first | go_big_quiet_step (first | (go_at_call 19; exact Calls.of_gr (toSho_any _ _ _ _ _ _)) | (go_at_call 20; exact Calls.of_gr (HI.out _ _ _ _ _ (Nat.le_refl _) (Nat.le_refl _) (hid (RdF.of_block (Gr.keep (w := wb) ⟨⟨_, _⟩, rfl⟩ (HB.out.keep X4b.out)))) (hid (RdTg.of_block (Gr.keep (w := wb) ⟨⟨_, _⟩, rfl⟩ (HB.out.keep T4b.out))))))) | quiet_step (fail))
    exact wpQuiet_nil rfl
  intro w5 hg5
  have k5 := hg5.keep K4.out; have g5 := ((Gr.refl w4).al (.cells (bncA a b (some ⟨g3, 0, none⟩) xs.length xs.length N kb u v (some ⟨g4, 0, none⟩) ts.length ts.length) 41)).trans hg5
  have K5 := hid k5; have X5 := hid (g5.keep X4.out); have T5 := hid (g5.keep T4.out); have B5 := hid (g5.keep B4.out); have G5 := hid (G4.out.trans g5)
  clear hg5 k5 g5 X4 T4 B4
  obtain ⟨_, _, _, _, _, _, _, _⟩ := cells8 K5.out
  have _ := ltb K5.out
  cases R0
  all_goals
    go_wp2_with fail
    refine wp_regL1 (fun g : Nat × Nat => bnc a b (some ⟨g.1, 0, none⟩) xs.length xs.length N kb u v (some ⟨g.2, 0, none⟩) ts.length ts.length) (fun g w => w.heap[g.1]? = some (.cells (flatA xs) 34) ∧ w.heap[g.2]? = some (.cells (rowTg ts []) 80)) 4 2 30 [0, 0, 0, 1] [2, 3] [0, 1, 2] (by kernel_rfl) (by kernel_rfl) (by kernel_rfl) rfl (by decide) (fun g g' h => by obtain ⟨g1, g2⟩ := g; obtain ⟨g1', g2'⟩ := g'; simpa using h) (fun g w w' h hg => ⟨hg.keep h.1, hg.keep h.2⟩) ?_
    apply Exists.intro; apply Exists.intro
    refine ⟨fun wb hb => ?_, fun o ho wb hb => ?_, fun g wb hb hg => ?_, fun g7 w7 hg7 x7 => ?_⟩
    · obtain ⟨_, _, _, _, _, _, _, _⟩ := hb.at8 K5.out
      obtain ⟨_, _, _, _, _, _, _, _⟩ := hb.at8 B5.out
      simp only [headOps, List.contains, List.elem, Nat.reduceAdd, Nat.reduceBEq, reduceIte, Bool.false_eq_true, dumOp]
      repeat (first | go_big_quiet_step (first | (fail)) | quiet_step (fail))
      exact wpQuiet_nil rfl
    · cases ho
      exact ⟨_, _, by kernel_rfl, (toBn_any _ _ _ _ xs _ _ _ _ _ _ ts wb hn hm (HR.out.keep (G5.out.trans hb)) (HRT.out.keep (G5.out.trans hb))).mono fun e w' ⟨g1, g2, he, hx, _, hg⟩ => ⟨(g1, g2), he, ⟨hx.1, hx.2.1⟩, hg⟩⟩
    · have HX := hid hg; have HB := hid hb
      simp only [Act.put, List.setIfInBounds_toArray, List.set_cons_succ, List.set_cons_zero]
      simp only [headOps, List.contains, List.elem, Nat.reduceAdd, Nat.reduceBEq, reduceIte, Bool.false_eq_true, dumOp]
      repeat (first | go_big_quiet_step (first | (go_at_call 13; exact Calls.of_gr (eqBn_any _ _ _ _ _ _ xs _ _ _ _ _ _ _ _ ts _ hn hm (hid (RdF.of_block (Gr.keep (w := wb) ⟨⟨_, _⟩, rfl⟩ (HB.out.keep X5.out)))) (hid (RdF.of_block (Gr.keep (w := wb) ⟨⟨_, _⟩, rfl⟩ HX.out.1))) (hid (RdTg.of_block (Gr.keep (w := wb) ⟨⟨_, _⟩, rfl⟩ (HB.out.keep T5.out)))) (hid (RdTg.of_block (Gr.keep (w := wb) ⟨⟨_, _⟩, rfl⟩ HX.out.2)))))) | quiet_step (fail))
      exact wpQuiet_nil rfl
    simp only [List.drop_succ_cons, List.drop_zero]
    have G7 := hid (G5.out.trans hg7)
    clear hg7 x7
    go_wp2_with fail
    go_ret
    exact ⟨rfl, G7.out⟩
set_option maxRecDepth 20000 in
set_option maxHeartbeats 400000 in
theorem lawValidShot_big (a b : Int) (A : Option Addr) (cap : Nat) (xs : List (Int × Int)) (N : Int) (kb : Bool) (u v : Int) (B : Option Addr) (capB : Nat) (ts : List Tgv) (h0 h1 h2 h3 h4 : Int) (w : World) (hrT : RawTg w (.slice B ts.length capB) ts) (hn : xs.length ≤ 9223372036854775807) (hm : ts.length ≤ 9223372036854775807) (hz : ∀ x ∈ ts, x.nm.size ≤ 9223372036854775807) (hq : szToB xs ts 1048576 = -1) :
    Calls Try.prog 6 #[bnc a b A xs.length cap N kb u v B ts.length capB, sho h0 h1 h2 h3 h4] w fun x w' => x = .returned (.bool true) ∧ Gr w w' := by
  have HRT := hid hrT; have HZ := hid hz; have HQ := hid hq
  clear hrT hz hq
  go_enter Try.func6, Try.ntmps6
  go_wp2_with fail
  refine (szBn_is _ _ _ _ xs _ _ _ _ _ _ ts _ _ _ (HRT.out.keep (((Gr.refl w).al _).al _)) hn hm HZ.out (by omega) (by omega) HQ.out).mono ?_
  rintro e w1 ⟨rfl, hg1⟩
  obtain ⟨x1_0, x1_1, hz1, g1⟩ := alloc2 hg1
  obtain ⟨_, _, _, _, _, _, _, _⟩ := cells8 x1_0
  have _ := fz x1_0
  have _ := ltb x1_0
  obtain ⟨_, _, _, _, _⟩ := cells5 x1_1
  have _ := fz x1_1
  have _ := ltb x1_1
  have X1_0 := hid x1_0; clear x1_0
  have X1_1 := hid x1_1; clear x1_1
  have G1 := hid (g1)
  clear hg1 g1
  go_wp2
  go_ret
  exact ⟨rfl, G1.out⟩

open Go.ChangeShapes Go.WideShapes Go.ChangeAt Go.Joins
theorem laidOutValidShot : laidOutB Try.prog = true := by as_aux_lemma => kernel_rfl
set_option maxRecDepth 100000 in
theorem liftedValidShot (os : Os) (started : os.Started) (H : Type) (enc : TypeId × Value → H) :
    ReturnsInHanded {} Try.checked os 6 .any (Rows.fnExactValidShotSpec.pre6 enc Try.prog Try.f6 Rows.fnExactValidShotRow.domain false) (Rows.fnExactValidShotSpec.post enc Try.prog Try.f6 false true false false) := by
  refine returnsInHanded_of_change (C := Try.checked) ownNone started (by kernel_rfl) Try.func6
    (ChangeSpec.witness6 (enc := enc) (C := Try.checked) false ⟨#[], #[.agg #[.int .i64 0, .int .i64 0, .slice none 0 0, .int .i64 0, .bool false, .int .i64 0, .int .i64 0, .slice none 0 0], .agg #[.int .i64 0, .int .i64 0, .int .i64 0, .int .i64 0, .int .i64 0]], []⟩ 8 (by kernel_rfl) (by kernel_rfl) (by kernel_rfl) (by kernel_rfl)) ?_
  intro W base args ds gs before hval0 hW _ _
  have hval : ∀ (j : Nat) t v, Try.f6.params[j]? = some t → args[j]? = some v → Value.okWide Try.prog W .any base t v := hval0
  have hW' := hW
  obtain ⟨p, q, hA0, hV, rfl, _, _⟩ := hW
  have hA : DataW.TrodAll enc Try.prog W 0 (fun _ => true) true Try.f6.params.toList args.toList ds p := hA0
  rw [Try.params6] at hA hval
  obtain ⟨v0, v1, d0, d1, p_0, p_1, rfl, rfl, rfl, h0, h1⟩ := trodAll_two hA
  obtain ⟨rfl, rfl⟩ := trodVars_none hV
  clear hA0 hval0
  simp only [List.append_nil] at hW'
  have hlt : ∀ x ∈ p_0 ++ p_1, x.block < W.heap.size := fun x hx => by simpa using hW'.lt x (by simpa using hx)
  have done : ∀ (e : Ending) (W' : World), e = .returned (.bool true) ∧ Gr W W' → ∃ v, e = .returned v ∧ Rows.fnExactValidShotSpec.post enc Try.prog Try.f6 false true false false W #[v0, v1] v W' := fun e W' ⟨he, hg⟩ => by
    subst he
    exact ⟨_, rfl, _, _, _, [], p_0 ++ p_1, [], hW', trodAll_mk1 (shut_bool Try.underlying4 _), trodAll_mk2 (Below.trod laidOutValidShot (by kernel_rfl) (of_decide_eq_true (by kernel_rfl)) h0 hg.below fun x hx => hlt x (by simp [hx])) (Below.trod laidOutValidShot (by kernel_rfl) (of_decide_eq_true (by kernel_rfl)) h1 hg.below fun x hx => hlt x (by simp [hx])), rfl, hg.below.frame _, fun h => by cases h⟩
  obtain ⟨a, b, A, m, cap, N, kb, u, v, B, l, capB, rfl, hmax, hmaxB, xs, ts, rfl, rfl, hraw, hrawT, hz⟩ := open_bench (hval 0 31 v0 rfl rfl) h0
  obtain ⟨h0_, h1_, h2_, h3_, h4_, rfl⟩ := open_sho (hval 1 50 v1 rfl rfl) h1
  obtain ⟨qz, hqz⟩ : ∃ q, szToB xs ts 1048576 = q := ⟨_, rfl⟩
  obtain ⟨bq1, bq2, bq3⟩ := szToB_bd (by omega) hqz
  by_cases hq0 : 0 ≤ qz
  · obtain ⟨hn, hm⟩ := bq3 hq0
    obtain ⟨R0, hs, hi⟩ := bothValidShot a b xs N kb u v ts h0_ h1_ h2_ h3_ h4_ (by omega) (by omega) hz
    exact (lawValidShot a b A cap xs N kb u v B capB ts h0_ h1_ h2_ h3_ h4_ R0 qz W hraw hrawT (by omega) (by omega) hz hqz hq0  (fun A g c d w _ _ X T => hs A g c d w X T) (fun A g c d w _ _ X T => hi A g c d w X T)).mono done
  · exact (lawValidShot_big a b A cap xs N kb u v B capB ts h0_ h1_ h2_ h3_ h4_ W hrawT hmax hmaxB hz (by omega)).mono done

set_option maxHeartbeats 2000000 in
theorem closedValidShot : joinedFacts Try.pinned.checked.prog 6 Try.f6 Rows.fnExactValidShotSpec Rows.fnExactValidShotRow = true := by
  unfold joinedFacts
  refine Bool.and_eq_true_iff.2 ⟨?_, by as_aux_lemma => kernel_rfl⟩
  refine Bool.and_eq_true_iff.2 ⟨?_, by as_aux_lemma => kernel_rfl⟩
  refine Bool.and_eq_true_iff.2 ⟨?_, by as_aux_lemma => kernel_rfl⟩
  refine Bool.and_eq_true_iff.2 ⟨?_, by as_aux_lemma => kernel_rfl⟩
  refine Bool.and_eq_true_iff.2 ⟨?_, by rw [fact_make]; rfl⟩
  refine Bool.and_eq_true_iff.2 ⟨?_, by rw [fact_final]; rfl⟩
  refine Bool.and_eq_true_iff.2 ⟨?_, fact_enters⟩
  refine Bool.and_eq_true_iff.2 ⟨?_, by as_aux_lemma => kernel_rfl⟩
  refine Bool.and_eq_true_iff.2 ⟨?_, by as_aux_lemma => kernel_rfl⟩
  refine Bool.and_eq_true_iff.2 ⟨?_, by as_aux_lemma => kernel_rfl⟩
  refine Bool.and_eq_true_iff.2 ⟨?_, by as_aux_lemma => kernel_rfl⟩
  refine Bool.and_eq_true_iff.2 ⟨?_, by as_aux_lemma => kernel_rfl⟩
  refine Bool.and_eq_true_iff.2 ⟨?_, by as_aux_lemma => kernel_rfl⟩
  refine Bool.and_eq_true_iff.2 ⟨?_, by as_aux_lemma => kernel_rfl⟩
  refine Bool.and_eq_true_iff.2 ⟨?_, by as_aux_lemma => kernel_rfl⟩
  refine Bool.and_eq_true_iff.2 ⟨?_, by as_aux_lemma => kernel_rfl⟩
  refine Bool.and_eq_true_iff.2 ⟨?_, by as_aux_lemma => kernel_rfl⟩
  refine Bool.and_eq_true_iff.2 ⟨?_, by as_aux_lemma => kernel_rfl⟩
  refine Bool.and_eq_true_iff.2 ⟨?_, by as_aux_lemma => kernel_rfl⟩
  refine Bool.and_eq_true_iff.2 ⟨?_, by as_aux_lemma => kernel_rfl⟩
  refine Bool.and_eq_true_iff.2 ⟨?_, by as_aux_lemma => kernel_rfl⟩
  refine Bool.and_eq_true_iff.2 ⟨?_, by as_aux_lemma => kernel_rfl⟩
  refine Bool.and_eq_true_iff.2 ⟨?_, by as_aux_lemma => kernel_rfl⟩
  refine Bool.and_eq_true_iff.2 ⟨?_, by as_aux_lemma => kernel_rfl⟩
  refine Bool.and_eq_true_iff.2 ⟨?_, by as_aux_lemma => kernel_rfl⟩
  refine Bool.and_eq_true_iff.2 ⟨?_, by as_aux_lemma => kernel_rfl⟩
  refine Bool.and_eq_true_iff.2 ⟨?_, by as_aux_lemma => kernel_rfl⟩
  refine Bool.and_eq_true_iff.2 ⟨?_, by as_aux_lemma => kernel_rfl⟩
  refine Bool.and_eq_true_iff.2 ⟨?_, by as_aux_lemma => kernel_rfl⟩
  refine Bool.and_eq_true_iff.2 ⟨?_, by as_aux_lemma => kernel_rfl⟩
  as_aux_lemma => kernel_rfl
theorem validShot_holds : Rows.FnExactValidShotSaid :=
  OpenClaim.holds_of_wide 6 Try.f6 rfl rfl rfl rfl rfl rfl rfl ⟨rfl, rfl, rfl, rfl, rfl⟩ rfl rfl rfl rfl rfl (by as_aux_lemma => kernel_rfl) Try.func6 closedValidShot
    (of_decide_eq_true (by as_aux_lemma => kernel_rfl)) (by unfold Func.isWrapper; rw [if_neg (by decide +kernel)]; exact ⟨rfl, rfl⟩)
    (fun os started H enc _ => liftedValidShot os started H enc)
#print axioms validShot_holds
end Go.Proofs.Ytflfjedimcbfeaa
