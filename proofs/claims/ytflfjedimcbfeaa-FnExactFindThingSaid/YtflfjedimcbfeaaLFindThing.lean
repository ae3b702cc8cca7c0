/- The law FnExactFindThing of the laws package returns true for every bench and all other arguments, valid or not; they read behind the call as before it. No condition. -/
import Derived.Test.YtflfjedimcbfeaaRows
import Derived.Test.YtflfjedimcbfeaaBi
import Derived.Test.YtflfjedimcbfeaaBh
import Derived.Test.YtflfjedimcbfeaaBo
import Derived.Test.YtflfjedimcbfeaaRd
import Derived.Test.YtflfjedimcbfeaaRegL
import Derived.Test.YtflfjedimcbfeaaFacts
import Derived.ProofKit
import Derived.Carry
import Derived.ChangeMaps5
import Derived.Lib.SmallJoins
namespace Go.Proofs.Ytflfjedimcbfeaa
open Go.RowKit Go.Sort

set_option maxRecDepth 20000 in
set_option maxHeartbeats 4000000 in
theorem lawFindThing (a b : Int) (A : Option Addr) (cap : Nat) (xs : List (Int × Int)) (N : Int) (kb : Bool) (u v : Int) (B : Option Addr) (capB : Nat) (ts : List Tgv) (s : ByteArray) (R0 : Int) (R1 : Int) (q : Int) (w : World) (hr : RawF w (.slice A xs.length cap) xs) (hrT : RawTg w (.slice B ts.length capB) ts) (hn : xs.length ≤ 1048576) (hm : ts.length ≤ 1048576) (hz : ∀ x ∈ ts, x.nm.size ≤ 9223372036854775807) (hq : szToB xs ts 1048576 = q) (hq0 : 0 ≤ q) (hsz : s.size ≤ 1048576)
    (hs : ∀ (A : Option Addr) (g c d : Nat) (w : World), xs.length ≤ c → ts.length ≤ d → Hid (RdF w A xs) → Hid (RdTg w (some ⟨g, 0, none⟩) ts) → Calls Try.prog 16 #[bnc a b A xs.length c N kb u v (some ⟨g, 0, none⟩) ts.length d, .string s] w fun x w' => x = .returned (.tuple #[.int .i64 R0, .int .i64 R1]) ∧ Gr w w')
    (hi : ∀ (A : Option Addr) (g c d : Nat) (w : World), xs.length ≤ c → ts.length ≤ d → Hid (RdF w A xs) → Hid (RdTg w (some ⟨g, 0, none⟩) ts) → Calls Try.prog 17 #[bnc a b A xs.length c N kb u v (some ⟨g, 0, none⟩) ts.length d, .string s] w fun x w' => x = .returned (.tuple #[.int .i64 R0, .int .i64 R1]) ∧ Gr w w') :
    Calls Try.prog 5 #[bnc a b A xs.length cap N kb u v B ts.length capB, .string s] w fun x w' => x = .returned (.bool true) ∧ Gr w w' := by
  have HS := hid hs; have HI := hid hi; have HR := hid hr; have HRT := hid hrT; have HZ := hid hz; have HQ := hid hq
  have hsz2 : ¬ (1048576 : Int) < (s.size : Int) := by omega
  clear hs hi hr hrT hz hq
  go_enter Try.func5, Try.ntmps5
  go_wp2_with fail
  refine (szBn_is _ _ _ _ xs _ _ _ _ _ _ ts _ _ _ (HRT.out.keep ((Gr.refl w).al _)) (by omega) (by omega) HZ.out (by omega) (by omega) HQ.out).mono ?_
  rintro e w1 ⟨rfl, hg1⟩
  obtain ⟨x1_0, hz1, g1⟩ := alloc1 hg1
  obtain ⟨_, _, _, _, _, _, _, _⟩ := cells8 x1_0
  have _ := fz x1_0
  have _ := ltb x1_0
  have X1_0 := hid x1_0; clear x1_0
  have G1 := hid (g1)
  clear hg1 g1
  have B1 := hid X1_0.out
  go_wp2_with fail
  refine (toBn_any _ _ _ _ xs _ _ _ _ _ _ ts _ hn hm (HR.out.keep G1.out) (HRT.out.keep G1.out)).mono ?_
  rintro x w2 ⟨g1, g2, rfl, ⟨x2, t2, _⟩, _, hg2⟩
  have X2 := hid x2; have T2 := hid t2; have B2 := hid (hg2.keep B1.out); have G2 := hid (G1.out.trans hg2)
  clear x2 t2 hg2
  go_wp2_with fail
  refine (HS.out _ _ _ _ _ (Nat.le_refl _) (Nat.le_refl _) (hid (RdF.of_block X2.out)) (hid (RdTg.of_block T2.out))).mono ?_
  rintro x w3 ⟨rfl, hg3⟩
  have B3 := hid (hg3.keep B2.out); have G3 := hid (G2.out.trans hg3)
  clear hg3 X2 T2 B2
  obtain ⟨_, _, _, _, _, _, _, _⟩ := cells8 B3.out
  have _ := ltb B3.out
  go_wp2_with fail
  refine (toBn_any _ _ _ _ xs _ _ _ _ _ _ ts _ hn hm (HR.out.keep G3.out) (HRT.out.keep G3.out)).mono ?_
  rintro x w4 ⟨g3, g4, rfl, ⟨x4, t4, _⟩, _, hg4⟩
  have X4 := hid x4; have T4 := hid t4; have B4 := hid (hg4.keep B3.out); have G4 := hid (G3.out.trans hg4)
  clear x4 t4 hg4
  go_wp2_with fail
  refine (HI.out _ _ _ _ _ (Nat.le_refl _) (Nat.le_refl _) (hid (RdF.of_block (((Gr.refl _).al _).keep X4.out))) (hid (RdTg.of_block (((Gr.refl _).al _).keep T4.out)))).mono ?_
  rintro x w5 ⟨rfl, hg5⟩
  have k5 := (alloc1 hg5).1; have g5 := (alloc1 hg5).2.2
  have K5 := hid k5; have X5 := hid (g5.keep X4.out); have T5 := hid (g5.keep T4.out); have B5 := hid (g5.keep B4.out); have G5 := hid (G4.out.trans g5)
  clear hg5 k5 g5 X4 T4 B4
  obtain ⟨_, _, _, _, _, _, _, _⟩ := cells8 K5.out
  have _ := ltb K5.out
  skip
  all_goals
    go_wp2_with fail
    refine wp_regL1 (fun g : Nat × Nat => bnc a b (some ⟨g.1, 0, none⟩) xs.length xs.length N kb u v (some ⟨g.2, 0, none⟩) ts.length ts.length) (fun g w => w.heap[g.1]? = some (.cells (flatA xs) 34) ∧ w.heap[g.2]? = some (.cells (rowTg ts []) 80)) 4 2 44 [0, 0, 0, 1] [2, 3] [0, 1, 2] (by kernel_rfl) (by kernel_rfl) (by kernel_rfl) rfl (by decide) (fun g g' h => by obtain ⟨g1, g2⟩ := g; obtain ⟨g1', g2'⟩ := g'; simpa using h) (fun g w w' h hg => ⟨hg.keep h.1, hg.keep h.2⟩) ?_
    apply Exists.intro; apply Exists.intro
    refine ⟨fun wb hb => ?_, fun o ho wb hb => ?_, fun g wb hb hg => ?_, fun g7 w7 hg7 x7 => ?_⟩
    · obtain ⟨_, _, _, _, _, _, _, _⟩ := hb.at8 K5.out
      obtain ⟨_, _, _, _, _, _, _, _⟩ := hb.at8 B5.out
      simp only [headOps, List.contains, List.elem, Nat.reduceAdd, Nat.reduceBEq, reduceIte, Bool.false_eq_true, dumOp]
      repeat (first | go_big_quiet_step (first | (fail)) | quiet_step (fail))
      exact wpQuiet_nil rfl
    · cases ho
      exact ⟨_, _, by kernel_rfl, (toBn_any _ _ _ _ xs _ _ _ _ _ _ ts wb hn hm (HR.out.keep (G5.out.trans hb)) (HRT.out.keep (G5.out.trans hb))).mono fun e w' ⟨g1, g2, he, hx, _, hg⟩ => ⟨(g1, g2), he, ⟨hx.1, hx.2.1⟩, hg⟩⟩
    · have HX := hid hg; have HB := hid hb
      simp only [Act.put, List.setIfInBounds_toArray, List.set_cons_succ, List.set_cons_zero]
      simp only [headOps, List.contains, List.elem, Nat.reduceAdd, Nat.reduceBEq, reduceIte, Bool.false_eq_true, dumOp]
      repeat (first | go_big_quiet_step (first | (go_at_call 13; exact Calls.of_gr (eqBn_any _ _ _ _ _ _ xs _ _ _ _ _ _ _ _ ts _ hn hm (hid (RdF.of_block (Gr.keep (w := wb) ⟨⟨_, _⟩, rfl⟩ (HB.out.keep X5.out)))) (hid (RdF.of_block (Gr.keep (w := wb) ⟨⟨_, _⟩, rfl⟩ HX.out.1))) (hid (RdTg.of_block (Gr.keep (w := wb) ⟨⟨_, _⟩, rfl⟩ (HB.out.keep T5.out)))) (hid (RdTg.of_block (Gr.keep (w := wb) ⟨⟨_, _⟩, rfl⟩ HX.out.2)))))) | quiet_step (fail))
      exact wpQuiet_nil rfl
    simp only [List.drop_succ_cons, List.drop_zero]
    have G7 := hid (G5.out.trans hg7)
    clear hg7 x7
    go_wp2_with fail
    go_ret
    exact ⟨rfl, G7.out⟩
set_option maxRecDepth 20000 in
set_option maxHeartbeats 400000 in
theorem lawFindThing_big (a b : Int) (A : Option Addr) (cap : Nat) (xs : List (Int × Int)) (N : Int) (kb : Bool) (u v : Int) (B : Option Addr) (capB : Nat) (ts : List Tgv) (s : ByteArray) (w : World) (hrT : RawTg w (.slice B ts.length capB) ts) (hn : xs.length ≤ 9223372036854775807) (hm : ts.length ≤ 9223372036854775807) (hz : ∀ x ∈ ts, x.nm.size ≤ 9223372036854775807) (hq : szToB xs ts 1048576 = -1) (hsz : s.size ≤ 1048576) :
    Calls Try.prog 5 #[bnc a b A xs.length cap N kb u v B ts.length capB, .string s] w fun x w' => x = .returned (.bool true) ∧ Gr w w' := by
  have HRT := hid hrT; have HZ := hid hz; have HQ := hid hq
  have hsz2 : ¬ (1048576 : Int) < (s.size : Int) := by omega
  clear hrT hz hq
  go_enter Try.func5, Try.ntmps5
  go_wp2_with fail
  refine (szBn_is _ _ _ _ xs _ _ _ _ _ _ ts _ _ _ (HRT.out.keep ((Gr.refl w).al _)) hn hm HZ.out (by omega) (by omega) HQ.out).mono ?_
  rintro e w1 ⟨rfl, hg1⟩
  obtain ⟨x1_0, hz1, g1⟩ := alloc1 hg1
  obtain ⟨_, _, _, _, _, _, _, _⟩ := cells8 x1_0
  have _ := fz x1_0
  have _ := ltb x1_0
  have X1_0 := hid x1_0; clear x1_0
  have G1 := hid (g1)
  clear hg1 g1
  go_wp2
  go_ret
  exact ⟨rfl, G1.out⟩
set_option maxRecDepth 20000 in
set_option maxHeartbeats 400000 in
theorem lawFindThing_long (a b : Int) (A : Option Addr) (n cap : Nat) (N : Int) (kb : Bool) (u v : Int) (B : Option Addr) (m capB : Nat) (s : ByteArray) (w : World) (hlong : 1048576 < s.size) (hmax : s.size ≤ 9223372036854775807) :
    Calls Try.prog 5 #[bnc a b A n cap N kb u v B m capB, .string s] w fun x w' => x = .returned (.bool true) ∧ Gr w w' := by
  go_enter Try.func5, Try.ntmps5
  go_wp2_with fail
  go_ret
  exact ⟨rfl, Gr.alloc _ _⟩

open Go.ChangeShapes Go.WideShapes Go.ChangeAt Go.Joins
theorem laidOutFindThing : laidOutB Try.prog = true := by as_aux_lemma => kernel_rfl
set_option maxRecDepth 100000 in
theorem liftedFindThing (os : Os) (started : os.Started) (H : Type) (enc : TypeId × Value → H) :
    ReturnsInHanded {} Try.checked os 5 .any (Rows.fnExactFindThingSpec.pre6 enc Try.prog Try.f5 Rows.fnExactFindThingRow.domain false) (Rows.fnExactFindThingSpec.post enc Try.prog Try.f5 false true false false) := by
  refine returnsInHanded_of_change (C := Try.checked) ownNone started (by kernel_rfl) Try.func5
    (ChangeSpec.witness6 (enc := enc) (C := Try.checked) false ⟨#[], #[.agg #[.int .i64 0, .int .i64 0, .slice none 0 0, .int .i64 0, .bool false, .int .i64 0, .int .i64 0, .slice none 0 0], .string .empty], []⟩ 8 (by kernel_rfl) (by kernel_rfl) (by kernel_rfl) (by kernel_rfl)) ?_
  intro W base args ds gs before hval0 hW _ _
  have hval : ∀ (j : Nat) t v, Try.f5.params[j]? = some t → args[j]? = some v → Value.okWide Try.prog W .any base t v := hval0
  have hW' := hW
  obtain ⟨p, q, hA0, hV, rfl, _, _⟩ := hW
  have hA : DataW.TrodAll enc Try.prog W 0 (fun _ => true) true Try.f5.params.toList args.toList ds p := hA0
  rw [Try.params5] at hA hval
  obtain ⟨v0, v1, d0, d1, p_0, p_1, rfl, rfl, rfl, h0, h1⟩ := trodAll_two hA
  obtain ⟨rfl, rfl⟩ := trodVars_none hV
  clear hA0 hval0
  simp only [List.append_nil] at hW'
  have hlt : ∀ x ∈ p_0 ++ p_1, x.block < W.heap.size := fun x hx => by simpa using hW'.lt x (by simpa using hx)
  have done : ∀ (e : Ending) (W' : World), e = .returned (.bool true) ∧ Gr W W' → ∃ v, e = .returned v ∧ Rows.fnExactFindThingSpec.post enc Try.prog Try.f5 false true false false W #[v0, v1] v W' := fun e W' ⟨he, hg⟩ => by
    subst he
    exact ⟨_, rfl, _, _, _, [], p_0 ++ p_1, [], hW', trodAll_mk1 (shut_bool Try.underlying4 _), trodAll_mk2 (Below.trod laidOutFindThing (by kernel_rfl) (of_decide_eq_true (by kernel_rfl)) h0 hg.below fun x hx => hlt x (by simp [hx])) (Below.trod laidOutFindThing (by kernel_rfl) (of_decide_eq_true (by kernel_rfl)) h1 hg.below fun x hx => hlt x (by simp [hx])), rfl, hg.below.frame _, fun h => by cases h⟩
  obtain ⟨a, b, A, m, cap, N, kb, u, v, B, l, capB, rfl, hmax, hmaxB, xs, ts, rfl, rfl, hraw, hrawT, hz⟩ := open_bench (hval 0 31 v0 rfl rfl) h0
  obtain ⟨s, rfl, rfl, rfl, hmaxs⟩ := ChangeMaps.open_string Try.underlying9 (hval 1 9 v1 rfl rfl) h1
  have hmaxs : s.size ≤ 9223372036854775807 := by unfold maxLen at hmaxs; omega
  by_cases hlong : 1048576 < s.size
  · exact (lawFindThing_long a b A xs.length cap N kb u v B ts.length capB s W hlong hmaxs).mono done
  have hsz : s.size ≤ 1048576 := by omega
  obtain ⟨qz, hqz⟩ : ∃ q, szToB xs ts 1048576 = q := ⟨_, rfl⟩
  obtain ⟨bq1, bq2, bq3⟩ := szToB_bd (by omega) hqz
  by_cases hq0 : 0 ≤ qz
  · obtain ⟨hn, hm⟩ := bq3 hq0
    obtain ⟨R0, R1, hs, hi⟩ := bothFindThing a b xs N kb u v ts s (by omega) (by omega) hz
    exact (lawFindThing a b A cap xs N kb u v B capB ts s R0 R1 qz W hraw hrawT (by omega) (by omega) hz hqz hq0 hsz (fun A g c d w _ _ X T => hs A g c d w X T) (fun A g c d w _ _ X T => hi A g c d w X T)).mono done
  · exact (lawFindThing_big a b A cap xs N kb u v B capB ts s W hrawT hmax hmaxB hz (by omega) hsz).mono done

set_option maxHeartbeats 2000000 in
theorem closedFindThing : joinedFacts Try.pinned.checked.prog 5 Try.f5 Rows.fnExactFindThingSpec Rows.fnExactFindThingRow = true := by
  unfold joinedFacts
  refine Bool.and_eq_true_iff.2 ⟨?_, by as_aux_lemma => kernel_rfl⟩
  refine Bool.and_eq_true_iff.2 ⟨?_, by as_aux_lemma => kernel_rfl⟩
  refine Bool.and_eq_true_iff.2 ⟨?_, by as_aux_lemma => kernel_rfl⟩
  refine Bool.and_eq_true_iff.2 ⟨?_, by as_aux_lemma => kernel_rfl⟩
  refine Bool.and_eq_true_iff.2 ⟨?_, by rw [fact_make]; rfl⟩
  refine Bool.and_eq_true_iff.2 ⟨?_, by rw [fact_final]; rfl⟩
  refine Bool.and_eq_true_iff.2 ⟨?_, fact_enters⟩
  refine Bool.and_eq_true_iff.2 ⟨?_, by as_aux_lemma => kernel_rfl⟩
  refine Bool.and_eq_true_iff.2 ⟨?_, by as_aux_lemma => kernel_rfl⟩
  refine Bool.and_eq_true_iff.2 ⟨?_, by as_aux_lemma => kernel_rfl⟩
  refine Bool.and_eq_true_iff.2 ⟨?_, by as_aux_lemma => kernel_rfl⟩
  refine Bool.and_eq_true_iff.2 ⟨?_, by as_aux_lemma => kernel_rfl⟩
  refine Bool.and_eq_true_iff.2 ⟨?_, by as_aux_lemma => kernel_rfl⟩
  refine Bool.and_eq_true_iff.2 ⟨?_, by as_aux_lemma => kernel_rfl⟩
  refine Bool.and_eq_true_iff.2 ⟨?_, by as_aux_lemma => kernel_rfl⟩
  refine Bool.and_eq_true_iff.2 ⟨?_, by as_aux_lemma => kernel_rfl⟩
  refine Bool.and_eq_true_iff.2 ⟨?_, by as_aux_lemma => kernel_rfl⟩
  refine Bool.and_eq_true_iff.2 ⟨?_, by as_aux_lemma => kernel_rfl⟩
  refine Bool.and_eq_true_iff.2 ⟨?_, by as_aux_lemma => kernel_rfl⟩
  refine Bool.and_eq_true_iff.2 ⟨?_, by as_aux_lemma => kernel_rfl⟩
  refine Bool.and_eq_true_iff.2 ⟨?_, by as_aux_lemma => kernel_rfl⟩
  refine Bool.and_eq_true_iff.2 ⟨?_, by as_aux_lemma => kernel_rfl⟩
  refine Bool.and_eq_true_iff.2 ⟨?_, by as_aux_lemma => kernel_rfl⟩
  refine Bool.and_eq_true_iff.2 ⟨?_, by as_aux_lemma => kernel_rfl⟩
  refine Bool.and_eq_true_iff.2 ⟨?_, by as_aux_lemma => kernel_rfl⟩
  refine Bool.and_eq_true_iff.2 ⟨?_, by as_aux_lemma => kernel_rfl⟩
  refine Bool.and_eq_true_iff.2 ⟨?_, by as_aux_lemma => kernel_rfl⟩
  refine Bool.and_eq_true_iff.2 ⟨?_, by as_aux_lemma => kernel_rfl⟩
  refine Bool.and_eq_true_iff.2 ⟨?_, by as_aux_lemma => kernel_rfl⟩
  refine Bool.and_eq_true_iff.2 ⟨?_, by as_aux_lemma => kernel_rfl⟩
  as_aux_lemma => kernel_rfl
theorem findThing_holds : Rows.FnExactFindThingSaid :=
  OpenClaim.holds_of_wide 5 Try.f5 rfl rfl rfl rfl rfl rfl rfl ⟨rfl, rfl, rfl, rfl, rfl⟩ rfl rfl rfl rfl rfl (by as_aux_lemma => kernel_rfl) Try.func5 closedFindThing
    (of_decide_eq_true (by as_aux_lemma => kernel_rfl)) (by unfold Func.isWrapper; rw [if_neg (by decide +kernel)]; exact ⟨rfl, rfl⟩)
    (fun os started H enc _ => liftedFindThing os started H enc)
#print axioms findThing_holds
end Go.Proofs.Ytflfjedimcbfeaa
