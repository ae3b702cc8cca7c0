/- The law FnExactBenchText of the laws package returns true for every bench, valid or not; it reads behind the call as before it. No condition but what the program's own text lays in its package-level variables (tied). -/
import Derived.Test.YtgfopfomhgfcaaaGreatDoorRows
import Derived.Test.YtgfopfomhgfcaaaGreatDoorJn
import Derived.Test.YtgfopfomhgfcaaaGreatDoorBh
import Derived.Test.YtgfopfomhgfcaaaGreatDoorRegL
import Derived.Test.YtgfopfomhgfcaaaGreatDoorDl
import Derived.Test.YtgfopfomhgfcaaaGreatDoorCards
import Derived.Test.YtgfopfomhgfcaaaGreatDoorTie
import Derived.SevenTiedAt
import Derived.ChangeSame
import Derived.ChangeVars
import Derived.JoinedOf
import Derived.LaidLaws
import Derived.LaidHandle
import Derived.Stop.Joined
import Derived.Test.YtgfopfomhgfcaaaGreatDoorRd
import Derived.Test.YtgfopfomhgfcaaaGreatDoorFacts
import Derived.ProofKit
import Derived.Carry
import Derived.Lib.SmallJoins
import Derived.ChangeMaps5
namespace Go.Proofs.YtgfopfomhgfcaaaGreatDoor
open Go.RowKit Go.Sort

theorem RawF.bl {w w' : World} {v : Value} {xs : List (Int × Int)} (h : RawF w v xs) (hg : Bl w w') : RawF w' v xs := by
  rcases h with h | ⟨ad, cap, h1, h3⟩
  · exact .inl h
  · refine .inr ⟨ad, cap, h1, fun k p q hk => ?_⟩
    obtain ⟨c1, c2⟩ := h3 k p q hk
    exact ⟨(Below.cell hg (World.block_lt_of_cell? _ _ c1)).trans c1, (Below.cell hg (World.block_lt_of_cell? _ _ c2)).trans c2⟩
theorem RawTg.bl {w w' : World} {v : Value} {xs : List Tgv} (h : RawTg w v xs) (hg : Bl w w') : RawTg w' v xs := by
  rcases h with h | ⟨ad, cap, h1, h3⟩
  · exact .inl h
  · exact .inr ⟨ad, cap, h1, fun k x hk => (h3 k x hk).bl hg⟩
set_option maxRecDepth 20000 in
set_option maxHeartbeats 4000000 in
theorem lawBenchText (a b : Int) (A : Option Addr) (cap : Nat) (xs : List (Int × Int)) (N : Int) (kb : Bool) (u v : Int) (B : Option Addr) (capB : Nat) (ts : List Tgv)  (R0 : ByteArray) (q : Int) (w : World) (T : Hid (Pow w)) (hr : RawF w (.slice A xs.length cap) xs) (hrT : RawTg w (.slice B ts.length capB) ts) (hn : xs.length ≤ 1048576) (hm : ts.length ≤ 1048576) (hz : ∀ x ∈ ts, x.nm.size ≤ 9223372036854775807) (hq : szToB xs ts 1048576 = q) (hq0 : 0 ≤ q)
    (hs : ∀ (A : Option Addr) (g c d : Nat) (w : World), xs.length ≤ c → ts.length ≤ d → Hid (RdF w A xs) → Hid (RdTg w (some ⟨g, 0, none⟩) ts) → Calls Tryz.prog 8 #[bnc a b A xs.length c N kb u v (some ⟨g, 0, none⟩) ts.length d] w fun x w' => x = .returned (.string R0) ∧ Gr w w')
    (hi : ∀ (A : Option Addr) (g c d : Nat) (w : World), xs.length ≤ c → ts.length ≤ d → Hid (RdF w A xs) → Hid (RdTg w (some ⟨g, 0, none⟩) ts) → Hid (Pow w) → Calls Tryz.prog 10 #[bnc a b A xs.length c N kb u v (some ⟨g, 0, none⟩) ts.length d] w fun x w' => x = .returned (.string R0) ∧ Bl w w') :
    Calls Tryz.prog 3 #[bnc a b A xs.length cap N kb u v B ts.length capB] w fun x w' => x = .returned (.bool true) ∧ Bl w w' := by
  have HS := hid hs; have HI := hid hi; have HR := hid hr; have HRT := hid hrT; have HZ := hid hz; have HQ := hid hq
  clear hs hi hr hrT hz hq
  go_enter Tryz.func3, Tryz.ntmps3
  go_wp2_with fail
  refine (szBn_is _ _ _ _ xs _ _ _ _ _ _ ts _ _ _ (HRT.out.keep ((Gr.refl w).al _)) (by omega) (by omega) HZ.out (by omega) (by omega) HQ.out).mono ?_
  rintro e w1 ⟨rfl, hg1⟩
  obtain ⟨x1_0, hz1, g1⟩ := alloc1 hg1
  obtain ⟨_, _, _, _, _, _, _, _⟩ := cells8 x1_0
  have _ := fz x1_0
  have _ := ltb x1_0
  have X1_0 := hid x1_0; clear x1_0
  have G1 := hid (g1)
  clear hg1 g1
  have B1 := hid X1_0.out
  go_wp2_with fail
  refine (toBn_any _ _ _ _ xs _ _ _ _ _ _ ts _ hn hm (HR.out.keep G1.out) (HRT.out.keep G1.out)).mono ?_
  rintro x w2 ⟨g1, g2, rfl, ⟨x2, t2, _⟩, _, hg2⟩
  have X2 := hid x2; have T2 := hid t2; have B2 := hid (hg2.keep B1.out); have G2 := hid (G1.out.trans hg2)
  clear x2 t2 hg2
  go_wp2_with fail
  refine (HS.out _ _ _ _ _ (Nat.le_refl _) (Nat.le_refl _) (hid (RdF.of_block X2.out)) (hid (RdTg.of_block T2.out))).mono ?_
  rintro x w3 ⟨rfl, hg3⟩
  have B3 := hid (hg3.keep B2.out); have G3 := hid (G2.out.trans hg3)
  clear hg3 X2 T2 B2
  obtain ⟨_, _, _, _, _, _, _, _⟩ := cells8 B3.out
  have _ := ltb B3.out
  go_wp2_with fail
  refine (toBn_any _ _ _ _ xs _ _ _ _ _ _ ts _ hn hm (HR.out.keep G3.out) (HRT.out.keep G3.out)).mono ?_
  rintro x w4 ⟨g3, g4, rfl, ⟨x4, t4, _⟩, _, hg4⟩
  have X4 := hid x4; have T4 := hid t4; have B4 := hid (hg4.keep B3.out); have G4 := hid (G3.out.trans hg4)
  clear x4 t4 hg4
  go_wp2_with fail
  have G4b := hid (G4.out.al (.cells (bncA a b (some ⟨g3, 0, none⟩) xs.length xs.length N kb u v (some ⟨g4, 0, none⟩) ts.length ts.length) 41))
  have Y4 := hid (alloc1 (w := w4) (A := (.cells (bncA a b (some ⟨g3, 0, none⟩) xs.length xs.length N kb u v (some ⟨g4, 0, none⟩) ts.length ts.length) 41)) (Gr.refl _)).1
  refine (HI.out _ _ _ _ _ (Nat.le_refl _) (Nat.le_refl _) (hid (RdF.of_block (((Gr.refl _).al _).keep X4.out))) (hid (RdTg.of_block (((Gr.refl _).al _).keep T4.out))) (hid (T.out.keep G4b.out))).mono ?_
  rintro x w5 ⟨rfl, hb⟩
  have K5 := hid (bl_keep hb Y4.out)
  have X5 := hid (bl_keep hb (((Gr.refl w4).al (.cells (bncA a b (some ⟨g3, 0, none⟩) xs.length xs.length N kb u v (some ⟨g4, 0, none⟩) ts.length ts.length) 41)).keep X4.out))
  have T5 := hid (bl_keep hb (((Gr.refl w4).al (.cells (bncA a b (some ⟨g3, 0, none⟩) xs.length xs.length N kb u v (some ⟨g4, 0, none⟩) ts.length ts.length) 41)).keep T4.out))
  have B5 := hid (bl_keep hb (((Gr.refl w4).al (.cells (bncA a b (some ⟨g3, 0, none⟩) xs.length xs.length N kb u v (some ⟨g4, 0, none⟩) ts.length ts.length) 41)).keep B4.out))
  have E5 := hid (Bl.tr G4b.out.below hb)
  have R5 := hid (RawF.bl (HR.out.keep G4b.out) hb)
  have RT5 := hid (RawTg.bl (HRT.out.keep G4b.out) hb)
  clear hb X4 T4 B4
  obtain ⟨_, _, _, _, _, _, _, _⟩ := cells8 K5.out
  have _ := ltb K5.out
  have G5 := hid (Gr.refl w5)
  have HR := R5; have HRT := RT5
  go_wp2_with fail
  refine wp_regL1 (fun g : Nat × Nat => bnc a b (some ⟨g.1, 0, none⟩) xs.length xs.length N kb u v (some ⟨g.2, 0, none⟩) ts.length ts.length) (fun g w => w.heap[g.1]? = some (.cells (flatA xs) 34) ∧ w.heap[g.2]? = some (.cells (rowTg ts []) 76)) 4 2 24 [0, 0, 0, 1] [2, 3] [0, 1, 2] (by kernel_rfl) (by kernel_rfl) (by kernel_rfl) rfl (by decide) (fun g g' h => by obtain ⟨g1, g2⟩ := g; obtain ⟨g1', g2'⟩ := g'; simpa using h) (fun g w w' h hg => ⟨hg.keep h.1, hg.keep h.2⟩) ?_
  apply Exists.intro; apply Exists.intro
  refine ⟨fun wb hb => ?_, fun o ho wb hb => ?_, fun g wb hb hg => ?_, fun g7 w7 hg7 x7 => ?_⟩
  · obtain ⟨_, _, _, _, _, _, _, _⟩ := hb.at8 K5.out
    obtain ⟨_, _, _, _, _, _, _, _⟩ := hb.at8 B5.out
    simp only [headOps, List.contains, List.elem, Nat.reduceAdd, Nat.reduceBEq, reduceIte, Bool.false_eq_true, dumOp]
    repeat (first | go_big_quiet_step (first | (fail)) | quiet_step (fail))
    exact wpQuiet_nil rfl
  · cases ho
    exact ⟨_, _, by kernel_rfl, (toBn_any _ _ _ _ xs _ _ _ _ _ _ ts wb hn hm (HR.out.keep (G5.out.trans hb)) (HRT.out.keep (G5.out.trans hb))).mono fun e w' ⟨g1, g2, he, hx, _, hg⟩ => ⟨(g1, g2), he, ⟨hx.1, hx.2.1⟩, hg⟩⟩
  · have HX := hid hg; have HB := hid hb
    simp only [Act.put, List.setIfInBounds_toArray, List.set_cons_succ, List.set_cons_zero]
    simp only [headOps, List.contains, List.elem, Nat.reduceAdd, Nat.reduceBEq, reduceIte, Bool.false_eq_true, dumOp]
    repeat (first | go_big_quiet_step (first | (go_at_call 11; exact Calls.of_gr (eqBn_any _ _ _ _ _ _ xs _ _ _ _ _ _ _ _ ts _ hn hm (hid (RdF.of_block (Gr.keep (w := wb) ⟨⟨_, _⟩, rfl⟩ (HB.out.keep X5.out)))) (hid (RdF.of_block (Gr.keep (w := wb) ⟨⟨_, _⟩, rfl⟩ HX.out.1))) (hid (RdTg.of_block (Gr.keep (w := wb) ⟨⟨_, _⟩, rfl⟩ (HB.out.keep T5.out)))) (hid (RdTg.of_block (Gr.keep (w := wb) ⟨⟨_, _⟩, rfl⟩ HX.out.2)))))) | quiet_step (fail))
    exact wpQuiet_nil rfl
  simp only [List.drop_succ_cons, List.drop_zero]
  have G7 := hid (G5.out.trans hg7)
  clear hg7 x7
  go_wp2_with fail
  go_ret
  exact ⟨rfl, Bl.tr E5.out G7.out.below⟩
set_option maxRecDepth 20000 in
set_option maxHeartbeats 400000 in
theorem lawBenchText_big (a b : Int) (A : Option Addr) (cap : Nat) (xs : List (Int × Int)) (N : Int) (kb : Bool) (u v : Int) (B : Option Addr) (capB : Nat) (ts : List Tgv)  (w : World) (hrT : RawTg w (.slice B ts.length capB) ts) (hn : xs.length ≤ 9223372036854775807) (hm : ts.length ≤ 9223372036854775807) (hz : ∀ x ∈ ts, x.nm.size ≤ 9223372036854775807) (hq : szToB xs ts 1048576 = -1) :
    Calls Tryz.prog 3 #[bnc a b A xs.length cap N kb u v B ts.length capB] w fun x w' => x = .returned (.bool true) ∧ Gr w w' := by
  have HRT := hid hrT; have HZ := hid hz; have HQ := hid hq
  clear hrT hz hq
  go_enter Tryz.func3, Tryz.ntmps3
  go_wp2_with fail
  refine (szBn_is _ _ _ _ xs _ _ _ _ _ _ ts _ _ _ (HRT.out.keep ((Gr.refl w).al _)) hn hm HZ.out (by omega) (by omega) HQ.out).mono ?_
  rintro e w1 ⟨rfl, hg1⟩
  obtain ⟨x1_0, hz1, g1⟩ := alloc1 hg1
  obtain ⟨_, _, _, _, _, _, _, _⟩ := cells8 x1_0
  have _ := fz x1_0
  have _ := ltb x1_0
  have X1_0 := hid x1_0; clear x1_0
  have G1 := hid (g1)
  clear hg1 g1
  go_wp2
  go_ret
  exact ⟨rfl, G1.out⟩

open Go.ChangeShapes Go.WideShapes Go.ChangeAt Go.Joins
theorem laidOutBenchText : laidOutB Tryz.prog = true := by as_aux_lemma => kernel_rfl
/-- A world in which the variables are laid. -/
noncomputable def laidWBenchText (os : Os) : World :=
  let w0 := World.holding Tryz.prog os ⟨#[], #[], []⟩
  let w1 := { w0 with heap := w0.heap.modify 4 fun
      | .cells _ t frozen => .cells (litCells Rows.laid_math_bits_deBruijn32tab) t frozen
      | o => o }
  let w2 := { w1 with heap := w1.heap.modify 5 fun
      | .cells _ t frozen => .cells (litCells Rows.laid_math_bits_deBruijn64tab) t frozen
      | o => o }
  let w3 := { w2 with heap := w2.heap.modify 2 fun
      | .cells _ t frozen => .cells (litCells Rows.laid_internal_strconv_uint64pow10) t frozen
      | o => o }
  w3
set_option maxRecDepth 100000 in
theorem laidWBenchText_met (os : Os) (args : Array Value) : laidMetH Tryz.prog [("math/bits.deBruijn32tab", Rows.laid_math_bits_deBruijn32tab), ("math/bits.deBruijn64tab", Rows.laid_math_bits_deBruijn64tab), ("internal/strconv.uint64pow10", Rows.laid_internal_strconv_uint64pow10)] ((laidWBenchText os).forCall (fun _ _ => 0) ⟨#[], args, []⟩).memory :=
  laidMetH_of_parts (laidMet_of_run' 9 (by kernel_rfl) (by kernel_rfl)) (by kernel_rfl)
set_option maxRecDepth 100000 in
theorem liftedBenchText (os : Os) (started : os.Started) (H : Type) (enc : TypeId × Value → H) :
    ReturnsInHanded {} Tryz.checked os 3 .any (fun w args => (Rows.fnExactBenchTextSpec.pre enc Tryz.prog Tryz.f3 [] false w args ∧ laidMetH Tryz.prog [("math/bits.deBruijn32tab", Rows.laid_math_bits_deBruijn32tab), ("math/bits.deBruijn64tab", Rows.laid_math_bits_deBruijn64tab), ("internal/strconv.uint64pow10", Rows.laid_internal_strconv_uint64pow10)] w) ∧ sizedMet enc Tryz.prog Tryz.f3 (OpenSpec.ofChange Rows.fnExactBenchTextSpec) false w args)
      (Rows.fnExactBenchTextSpec.post enc Tryz.prog Tryz.f3 false true false false) := by
  refine returnsInHanded_of_change_and (C := Tryz.checked) (X := fun w _ => laidMetH Tryz.prog [("math/bits.deBruijn32tab", Rows.laid_math_bits_deBruijn32tab), ("math/bits.deBruijn64tab", Rows.laid_math_bits_deBruijn64tab), ("internal/strconv.uint64pow10", Rows.laid_internal_strconv_uint64pow10)] w) (fun _ _ _ hh h => h.of_heap hh) ownNone started (by kernel_rfl) Tryz.func3
    (ChangeSpec.witness_at (enc := enc) (C := Tryz.checked) (os := os) (X := fun w _ => laidMetH Tryz.prog [("math/bits.deBruijn32tab", Rows.laid_math_bits_deBruijn32tab), ("math/bits.deBruijn64tab", Rows.laid_math_bits_deBruijn64tab), ("internal/strconv.uint64pow10", Rows.laid_internal_strconv_uint64pow10)] w) false (laidWBenchText os) #[.agg #[.int .i64 0, .int .i64 0, .slice none 0 0, .int .i64 0, .bool false, .int .i64 0, .int .i64 0, .slice none 0 0]] 8 rfl (by kernel_rfl) (by kernel_rfl) (by kernel_rfl) (by kernel_rfl) (by kernel_rfl) (laidWBenchText_met os _)) ?_
  intro W base args ds gs before hval0 hW _ _ hL _
  have hE := hid (Pow_of_laid (by simp) hL)
  have hval : ∀ (j : Nat) t v, Tryz.f3.params[j]? = some t → args[j]? = some v → Value.okWide Tryz.prog W .any base t v := hval0
  have hW' := hW
  obtain ⟨p, q, hA0, hV, rfl, _, _⟩ := hW
  have hA : DataW.TrodAll enc Tryz.prog W 0 (fun _ => true) true Tryz.f3.params.toList args.toList ds p := hA0
  rw [Tryz.params3] at hA hval
  obtain ⟨v0, d0, rfl, rfl, h0⟩ := trodAll_one hA
  obtain ⟨rfl, rfl⟩ := trodVars_none hV
  clear hA0 hval0
  simp only [List.append_nil] at hW'
  have hlt : ∀ x ∈ p, x.block < W.heap.size := fun x hx => by simpa using hW'.lt x (by simpa using hx)
  have done : ∀ (e : Ending) (W' : World), e = .returned (.bool true) ∧ Bl W W' → ∃ v, e = .returned v ∧ Rows.fnExactBenchTextSpec.post enc Tryz.prog Tryz.f3 false true false false W #[v0] v W' := fun e W' ⟨he, hg⟩ => by
    subst he
    exact ⟨_, rfl, _, _, _, [], p, [], hW', trodAll_mk1 (shut_bool Tryz.underlying4 _), trodAll_mk1 (Below.trod laidOutBenchText (by kernel_rfl) (of_decide_eq_true (by kernel_rfl)) h0 hg fun x hx => hlt x (by simpa using hx)), rfl, Below.frame hg _, fun h => by cases h⟩
  obtain ⟨a, b, A, m, cap, N, kb, u, v, B, l, capB, rfl, hmax, hmaxB, xs, ts, rfl, rfl, hraw, hrawT, hz⟩ := open_bench (hval 0 31 v0 rfl rfl) h0
  obtain ⟨qz, hqz⟩ : ∃ q, szToB xs ts 1048576 = q := ⟨_, rfl⟩
  obtain ⟨bq1, bq2, bq3⟩ := szToB_bd (by omega) hqz
  by_cases hq0 : 0 ≤ qz
  · obtain ⟨hn, hm⟩ := bq3 hq0
    obtain ⟨R0, hs, hi⟩ := bothBenchText a b xs N kb u v ts (by omega) (by omega) hz
    exact (lawBenchText a b A cap xs N kb u v B capB ts R0 qz W hE hraw hrawT (by omega) (by omega) hz hqz hq0 (fun A g c d w _ _ X T => hs A g c d w X T) (fun A g c d w _ _ X T P => hi A g c d w X T P)).mono done
  · exact (lawBenchText_big a b A cap xs N kb u v B capB ts W hrawT hmax hmaxB hz (by omega)).mono fun e W' h => done e W' ⟨h.1, h.2.below⟩

set_option maxHeartbeats 2000000 in
theorem closedBenchText : joinedFacts Tryz.pinned.checked.prog 3 Tryz.f3 Rows.fnExactBenchTextSpec Rows.fnExactBenchTextRow = true := by
  unfold joinedFacts
  refine Bool.and_eq_true_iff.2 ⟨?_, by as_aux_lemma => kernel_rfl⟩
  refine Bool.and_eq_true_iff.2 ⟨?_, by as_aux_lemma => kernel_rfl⟩
  refine Bool.and_eq_true_iff.2 ⟨?_, by as_aux_lemma => kernel_rfl⟩
  refine Bool.and_eq_true_iff.2 ⟨?_, by as_aux_lemma => kernel_rfl⟩
  refine Bool.and_eq_true_iff.2 ⟨?_, by rw [fact_make]; rfl⟩
  refine Bool.and_eq_true_iff.2 ⟨?_, by rw [fact_final]; rfl⟩
  refine Bool.and_eq_true_iff.2 ⟨?_, fact_enters⟩
  refine Bool.and_eq_true_iff.2 ⟨?_, by as_aux_lemma => kernel_rfl⟩
  refine Bool.and_eq_true_iff.2 ⟨?_, by as_aux_lemma => kernel_rfl⟩
  refine Bool.and_eq_true_iff.2 ⟨?_, by as_aux_lemma => kernel_rfl⟩
  refine Bool.and_eq_true_iff.2 ⟨?_, by as_aux_lemma => kernel_rfl⟩
  refine Bool.and_eq_true_iff.2 ⟨?_, by as_aux_lemma => kernel_rfl⟩
  refine Bool.and_eq_true_iff.2 ⟨?_, by as_aux_lemma => kernel_rfl⟩
  refine Bool.and_eq_true_iff.2 ⟨?_, by as_aux_lemma => kernel_rfl⟩
  refine Bool.and_eq_true_iff.2 ⟨?_, by as_aux_lemma => kernel_rfl⟩
  refine Bool.and_eq_true_iff.2 ⟨?_, by as_aux_lemma => kernel_rfl⟩
  refine Bool.and_eq_true_iff.2 ⟨?_, by as_aux_lemma => kernel_rfl⟩
  refine Bool.and_eq_true_iff.2 ⟨?_, by as_aux_lemma => kernel_rfl⟩
  refine Bool.and_eq_true_iff.2 ⟨?_, by as_aux_lemma => kernel_rfl⟩
  refine Bool.and_eq_true_iff.2 ⟨?_, by as_aux_lemma => kernel_rfl⟩
  refine Bool.and_eq_true_iff.2 ⟨?_, by as_aux_lemma => kernel_rfl⟩
  refine Bool.and_eq_true_iff.2 ⟨?_, by as_aux_lemma => kernel_rfl⟩
  refine Bool.and_eq_true_iff.2 ⟨?_, by as_aux_lemma => kernel_rfl⟩
  refine Bool.and_eq_true_iff.2 ⟨?_, by as_aux_lemma => kernel_rfl⟩
  refine Bool.and_eq_true_iff.2 ⟨?_, by as_aux_lemma => kernel_rfl⟩
  refine Bool.and_eq_true_iff.2 ⟨?_, by as_aux_lemma => kernel_rfl⟩
  refine Bool.and_eq_true_iff.2 ⟨?_, by as_aux_lemma => kernel_rfl⟩
  refine Bool.and_eq_true_iff.2 ⟨?_, by as_aux_lemma => kernel_rfl⟩
  refine Bool.and_eq_true_iff.2 ⟨?_, by as_aux_lemma => kernel_rfl⟩
  refine Bool.and_eq_true_iff.2 ⟨?_, by as_aux_lemma => kernel_rfl⟩
  as_aux_lemma => kernel_rfl
theorem benchText_holds : Rows.FnExactBenchTextSaid :=
  OpenClaim.holds_of_wide 3 Tryz.f3 rfl rfl rfl rfl rfl rfl rfl ⟨rfl, rfl, rfl, rfl, rfl⟩ rfl rfl rfl rfl rfl (by as_aux_lemma => kernel_rfl) Tryz.func3 closedBenchText
    (of_decide_eq_true (by as_aux_lemma => kernel_rfl)) (by unfold Func.isWrapper; rw [if_neg (by decide +kernel)]; exact ⟨rfl, rfl⟩)
    (fun os started H enc _ => liftedBenchText os started H enc)
theorem benchText_card : Rows.FnExactBenchTextCardSaid :=
  Claim7.holds_tied_plain_at .later [] [.data, .data, .data] true Rows.fnExactBenchTextCard.stood.harness true
    benchText_holds (fun _ h => by cases h) (by kernel_rfl) (fun _ h => by cases h) fnExactBenchText_row_tie rfl ⟨rfl, rfl⟩ (by kernel_rfl) rfl
    (fun f fn hf hfn => by
      obtain rfl : f = 3 := Option.some.inj ((show Tryz.prog.funcNamed "loop.example/g01254/laws.FnExactBenchText" = some 3 by kernel_rfl).symm.trans hf) |>.symm
      obtain rfl : fn = Tryz.f3 := (Option.some.inj (Tryz.func3.symm.trans hfn)).symm
      exact ⟨by kernel_rfl, fun j t ht => by
        rw [Tryz.params3] at ht
        have hm : t = 31 := by
          rcases j with _ | j
          · simpa using ht.symm
          · simp at ht
        subst hm
        exact (show Tryz.prog.wantsStandIn 31 = false by kernel_rfl)⟩)
    (by kernel_rfl)
end Go.Proofs.YtgfopfomhgfcaaaGreatDoor
