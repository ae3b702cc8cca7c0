/- The law FnExactEndsOf of the laws package returns true for every bench and all other arguments, valid or not; they read behind the call as before it. No condition. -/
import Derived.Test.YtflfjedimcbfeaaRows
import Derived.Test.YtflfjedimcbfeaaEa
import Derived.Test.YtflfjedimcbfeaaBh
import Derived.Test.YtflfjedimcbfeaaBo
import Derived.Test.YtflfjedimcbfeaaRd
import Derived.Test.YtflfjedimcbfeaaRegL
import Derived.Test.YtflfjedimcbfeaaFacts
import Derived.ProofKit
import Derived.Carry
import Derived.ChangeMaps5
import Derived.Lib.SmallJoins
namespace Go.Proofs.Ytflfjedimcbfeaa
open Go.RowKit Go.Sort

theorem flat_one {xs : List (Int × Int)} (h : xs.length ≠ 1) : (#[.int .i64 0, .int .i64 0] : Array Value) ≠ flatA xs := by
  intro he
  have := congrArg Array.size he
  unfold flatA at this
  simp [flatL_len] at this
  omega
theorem ben_stays {w w' : World} {g : Nat × Nat} {b : Nat} {xs : List (Int × Int)} {ts : List Tgv} (h : xs.length = 1 ∨ (w.heap[g.1]? = some (.cells (flatA xs) 34) ∧ w.heap[g.2]? = some (.cells (rowTg ts []) 80))) (hb : w.heap[b]? = some (.cells #[.int .i64 0, .int .i64 0] 34)) (hs : ∀ j, j ≠ b → w'.heap[j]? = w.heap[j]?) : xs.length = 1 ∨ (w'.heap[g.1]? = some (.cells (flatA xs) 34) ∧ w'.heap[g.2]? = some (.cells (rowTg ts []) 80)) := by
  by_cases h1 : xs.length = 1
  · exact .inl h1
  · obtain ⟨x, t⟩ := h.resolve_left h1
    refine .inr ⟨?_, ?_⟩
    · rw [hs g.1 (fun he => ?_)]
      · exact x
      · rw [he, hb] at x
        injection x with e1
        injection e1 with e2
        exact flat_one h1 e2
    · rw [hs g.2 (fun he => ?_)]
      · exact t
      · rw [he, hb] at t
        injection t with e1
        injection e1 with _ e2
        exact absurd e2 (by decide)
set_option maxRecDepth 20000 in
set_option maxHeartbeats 4000000 in
theorem lawEndsOf (a b : Int) (A : Option Addr) (cap : Nat) (xs : List (Int × Int)) (N : Int) (kb : Bool) (u v : Int) (B : Option Addr) (capB : Nat) (ts : List Tgv) (h0 h1 h2 h3 h4 : Int) (R0 R1 R2 R3 R4 : Int) (q : Int) (w : World) (hr : RawF w (.slice A xs.length cap) xs) (hrT : RawTg w (.slice B ts.length capB) ts) (hn : xs.length ≤ 1048576) (hm : ts.length ≤ 1048576) (hz : ∀ x ∈ ts, x.nm.size ≤ 9223372036854775807) (hq : szToB xs ts 1048576 = q) (hq0 : 0 ≤ q)
    (hs : ∀ (A : Option Addr) (g c d : Nat) (w : World), (xs.length = 1 ∨ (Hid (RdF w A xs) ∧ Hid (RdTg w (some ⟨g, 0, none⟩) ts))) → Calls Try.prog 21 #[bnc a b A xs.length c N kb u v (some ⟨g, 0, none⟩) ts.length d, sho h0 h1 h2 h3 h4] w fun x w' => x = .returned (.tuple #[fr R0 R1, fr R2 R3, .int .i64 R4]) ∧ Gr w w')
    (hi : ∀ (A : Option Addr) (g c d : Nat) (w : World), xs.length ≤ c → ts.length ≤ d → Hid (RdF w A xs) → Hid (RdTg w (some ⟨g, 0, none⟩) ts) → Calls Try.prog 22 #[bnc a b A xs.length c N kb u v (some ⟨g, 0, none⟩) ts.length d, sho h0 h1 h2 h3 h4] w fun x w' => x = .returned (.tuple #[fr R0 R1, fr R2 R3, .int .i64 R4]) ∧ Gr w w') :
    Calls Try.prog 7 #[bnc a b A xs.length cap N kb u v B ts.length capB, sho h0 h1 h2 h3 h4] w fun x w' => x = .returned (.bool true) ∧ Gr w w' := by
  have HS := hid hs; have HI := hid hi; have HR := hid hr; have HRT := hid hrT; have HZ := hid hz; have HQ := hid hq
  clear hs hi hr hrT hz hq
  go_enter Try.func7, Try.ntmps7
  go_wp2_with fail
  refine (szBn_is _ _ _ _ xs _ _ _ _ _ _ ts _ _ _ (HRT.out.keep (((Gr.refl w).al _).al _)) (by omega) (by omega) HZ.out (by omega) (by omega) HQ.out).mono ?_
  rintro e w1 ⟨rfl, hg1⟩
  obtain ⟨x1_0, x1_1, hz1, g1⟩ := alloc2 hg1
  obtain ⟨_, _, _, _, _, _, _, _⟩ := cells8 x1_0
  have _ := fz x1_0
  have _ := ltb x1_0
  obtain ⟨_, _, _, _, _⟩ := cells5 x1_1
  have _ := fz x1_1
  have _ := ltb x1_1
  have X1_0 := hid x1_0; clear x1_0
  have X1_1 := hid x1_1; clear x1_1
  have G1 := hid (g1)
  clear hg1 g1
  have B1 := hid X1_0.out; have J1 := hid X1_1.out
  go_wp2_with fail
  refine wp_regL1t (T := 34) (fun g : Nat × Nat => bnc a b (some ⟨g.1, 0, none⟩) xs.length xs.length N kb u v (some ⟨g.2, 0, none⟩) ts.length ts.length) (fun g w => xs.length = 1 ∨ (w.heap[g.1]? = some (.cells (flatA xs) 34) ∧ w.heap[g.2]? = some (.cells (rowTg ts []) 80))) #[.int .i64 0, .int .i64 0] 13 1 20 9 6 11 24 10 7 12 25 [0, 0, 0, 0, 1, 1, 1, 1, 1, 0, 0, 1, 1] [1, 4, 5, 6, 7, 8, 9, 10, 11, 12] [0, 1, 2, 3, 9, 10, 11, 12] (by kernel_rfl) (by kernel_rfl) (by kernel_rfl) rfl (by decide) (by decide) (by decide) (by decide) rfl rfl (by simp) rfl rfl (by decide) rfl rfl (by simp) rfl rfl (by decide) (fun _ _ => by kernel_rfl) (fun _ _ => by kernel_rfl) (by kernel_rfl) (fun g g' h => by obtain ⟨g1, g2⟩ := g; obtain ⟨g1', g2'⟩ := g'; simpa using h) (fun g w w' h hg => h.imp id fun h => ⟨hg.keep h.1, hg.keep h.2⟩) (fun g w w' b h hb hs => ben_stays h hb hs) ?_
  apply Exists.intro; apply Exists.intro; apply Exists.intro; apply Exists.intro
  refine ⟨fun wb hb => ?_, fun o ho wb hb => ?_, fun g wb hb hg => ?_, fun g => ?_, fun g => ?_, fun g3 w3 v1 v2 hg3 x3 _ _ y1 y2 => ?_⟩
  · obtain ⟨_, _, _, _, _, _, _, _⟩ := hb.at8 B1.out
    obtain ⟨_, _, _, _, _⟩ := hb.at5 J1.out
    simp only [headOps, List.contains, List.elem, Nat.reduceAdd, Nat.reduceBEq, reduceIte, Bool.false_eq_true, dumOp]
    repeat (first | go_big_quiet_step (first | (go_at_call 19; exact Calls.of_gr (toSho_any _ _ _ _ _ _))) | quiet_step (fail))
    exact wpQuiet_nil rfl
  · cases ho
    exact ⟨_, _, by kernel_rfl, (toBn_any _ _ _ _ xs _ _ _ _ _ _ ts wb hn hm (HR.out.keep (G1.out.trans hb)) (HRT.out.keep (G1.out.trans hb))).mono fun e w' ⟨g1, g2, he, hx, _, hg⟩ => ⟨(g1, g2), he, .inr ⟨hx.1, hx.2.1⟩, hg⟩⟩
  · have HX := hid hg
    simp only [headOps, List.contains, List.elem, Nat.reduceAdd, Nat.reduceBEq, reduceIte, Bool.false_eq_true, dumOp]
    repeat (first | go_big_quiet_step (first | (go_at_call 21; exact Calls.of_gr (HS.out _ _ _ _ _ (HX.out.imp id fun h => ⟨hid (RdF.of_block (Gr.keep (w := wb) ⟨⟨_, _⟩, rfl⟩ h.1)), hid (RdTg.of_block (Gr.keep (w := wb) ⟨⟨_, _⟩, rfl⟩ h.2))⟩)))) | quiet_step (fail))
    exact wpQuiet_nil rfl
  · exact ⟨rfl, rfl, rfl⟩
  · exact ⟨⟨rfl, by simp [Value.oneCell']⟩, ⟨rfl, by simp [Value.oneCell']⟩⟩
  simp only [List.drop_succ_cons, List.drop_zero]
  have B3 := hid (hg3.keep B1.out); have J3 := hid (hg3.keep J1.out); have V3 := hid y1; have U3 := hid y2; have G3 := hid (G1.out.trans hg3)
  clear hg3 x3 y1 y2
  obtain ⟨_, _, _, _, _, _, _, _⟩ := cells8 B3.out
  have _ := ltb B3.out
  go_wp2_with fail
  refine (toBn_any _ _ _ _ xs _ _ _ _ _ _ ts _ hn hm (HR.out.keep G3.out) (HRT.out.keep G3.out)).mono ?_
  rintro x w4 ⟨g3, g4, rfl, ⟨x4, t4, _⟩, _, hg4⟩
  have X4 := hid x4; have T4 := hid t4; have B4 := hid (hg4.keep B3.out); have G4 := hid (G3.out.trans hg4); have J4 := hid (hg4.keep J3.out); have V4 := hid (hg4.keep V3.out); have U4 := hid (hg4.keep U3.out)
  clear x4 t4 hg4 V3 U3
  obtain ⟨_, _, _, _, _⟩ := cells5 J4.out
  have _ := ltb J4.out
  go_wp2_with fail
  have K4 := hid (alloc1 (w := w4) (A := (.cells (bncA a b (some ⟨g3, 0, none⟩) xs.length xs.length N kb u v (some ⟨g4, 0, none⟩) ts.length ts.length) 41)) (Gr.refl _)).1; have J4b := hid (((Gr.refl w4).al (.cells (bncA a b (some ⟨g3, 0, none⟩) xs.length xs.length N kb u v (some ⟨g4, 0, none⟩) ts.length ts.length) 41)).keep J4.out); have X4b := hid (((Gr.refl w4).al (.cells (bncA a b (some ⟨g3, 0, none⟩) xs.length xs.length N kb u v (some ⟨g4, 0, none⟩) ts.length ts.length) 41)).keep X4.out); have T4b := hid (((Gr.refl w4).al (.cells (bncA a b (some ⟨g3, 0, none⟩) xs.length xs.length N kb u v (some ⟨g4, 0, none⟩) ts.length ts.length) 41)).keep T4.out)
  refine wp_regL1t (T := 34) (fun _ : Unit => sho h0 h1 h2 h3 h4) (fun _ _ => True) #[.int .i64 0, .int .i64 0] 12 2 32 8 10 10 34 9 11 11 35 [0, 0, 0, 1, 1, 1, 1, 1, 0, 0, 1, 1] [2, 3, 4, 5, 6, 7, 8, 9, 10, 11] [0, 1, 2, 8, 9, 10, 11] (by kernel_rfl) (by kernel_rfl) (by kernel_rfl) rfl (by decide) (by decide) (by decide) (by decide) rfl rfl (by simp) rfl rfl (by decide) rfl rfl (by simp) rfl rfl (by decide) (fun _ _ => by kernel_rfl) (fun _ _ => by kernel_rfl) (by kernel_rfl) (fun _ _ _ => rfl) (fun _ _ _ _ _ => trivial) (fun _ _ _ _ _ _ _ => trivial) ?_
  apply Exists.intro; apply Exists.intro; apply Exists.intro; apply Exists.intro
  refine ⟨fun wb hb => ?_, fun o ho wb hb => ?_, fun _ wb hb _ => ?_, fun _ => ?_, fun _ => ?_, fun _ w5 p1 p2 hg5 _ _ _ y1 y2 => ?_⟩
  · obtain ⟨_, _, _, _, _, _, _, _⟩ := hb.at8 K4.out
    obtain ⟨_, _, _, _, _⟩ := hb.at5 J4b.out
    simp only [headOps, List.contains, List.elem, Nat.reduceAdd, Nat.reduceBEq, reduceIte, Bool.false_eq_true, dumOp]
    repeat (first | go_big_quiet_step (first | (fail)) | quiet_step (fail))
    exact wpQuiet_nil rfl
  · cases ho
    exact ⟨_, _, by kernel_rfl, (toSho_any _ _ _ _ _ _).mono fun e w' ⟨he, hg⟩ => ⟨(), he, trivial, hg⟩⟩
  · have HB := hid hb
    simp only [headOps, List.contains, List.elem, Nat.reduceAdd, Nat.reduceBEq, reduceIte, Bool.false_eq_true, dumOp]
    repeat (first | go_big_quiet_step (first | (go_at_call 22; exact Calls.of_gr (HI.out _ _ _ _ _ (Nat.le_refl _) (Nat.le_refl _) (hid (RdF.of_block (Gr.keep (w := wb) ⟨⟨_, _⟩, rfl⟩ (HB.out.keep X4b.out)))) (hid (RdTg.of_block (Gr.keep (w := wb) ⟨⟨_, _⟩, rfl⟩ (HB.out.keep T4b.out))))))) | quiet_step (fail))
    exact wpQuiet_nil rfl
  · exact ⟨rfl, rfl, rfl⟩
  · exact ⟨⟨rfl, by simp [Value.oneCell']⟩, ⟨rfl, by simp [Value.oneCell']⟩⟩
  simp only [List.drop_succ_cons, List.drop_zero]
  have k5 := hg5.keep K4.out; have g5 := ((Gr.refl w4).al (.cells (bncA a b (some ⟨g3, 0, none⟩) xs.length xs.length N kb u v (some ⟨g4, 0, none⟩) ts.length ts.length) 41)).trans hg5
  have K5 := hid k5; have X5 := hid (g5.keep X4.out); have T5 := hid (g5.keep T4.out); have B5 := hid (g5.keep B4.out); have V5 := hid (g5.keep V4.out); have U5 := hid (g5.keep U4.out); have P5 := hid y1; have Q5 := hid y2; have G5 := hid (G4.out.trans g5)
  clear hg5 k5 g5 X4 T4 B4 V4 U4 y1 y2
  obtain ⟨_, _⟩ := cells2 V5.out
  obtain ⟨_, _⟩ := cells2 P5.out
  have _ := ltb V5.out; have _ := ltb P5.out
  go_wp2_with fail
  refine (eqFrac_any _ _ _).mono ?_
  rintro x w6 ⟨rfl, hg6⟩
  have K6 := hid (hg6.keep K5.out); have X6 := hid (hg6.keep X5.out); have T6 := hid (hg6.keep T5.out); have B6 := hid (hg6.keep B5.out); have U6 := hid (hg6.keep U5.out); have Q6 := hid (hg6.keep Q5.out); have G6 := hid (G5.out.trans hg6)
  clear hg6 K5 X5 T5 B5 V5 U5 P5 Q5
  obtain ⟨_, _⟩ := cells2 U6.out
  obtain ⟨_, _⟩ := cells2 Q6.out
  have _ := ltb U6.out; have _ := ltb Q6.out
  go_wp2_with fail
  refine (eqFrac_any _ _ _).mono ?_
  rintro x w7 ⟨rfl, hg7⟩
  have K7 := hid (hg7.keep K6.out); have X7 := hid (hg7.keep X6.out); have T7 := hid (hg7.keep T6.out); have B7 := hid (hg7.keep B6.out); have G7 := hid (G6.out.trans hg7)
  clear hg7 K6 X6 T6 B6 U6 Q6
  go_wp2_with fail
  refine wp_regL1 (fun g : Nat × Nat => bnc a b (some ⟨g.1, 0, none⟩) xs.length xs.length N kb u v (some ⟨g.2, 0, none⟩) ts.length ts.length) (fun g w => w.heap[g.1]? = some (.cells (flatA xs) 34) ∧ w.heap[g.2]? = some (.cells (rowTg ts []) 80)) 4 2 54 [0, 0, 0, 1] [2, 3] [0, 1, 2] (by kernel_rfl) (by kernel_rfl) (by kernel_rfl) rfl (by decide) (fun g g' h => by obtain ⟨g1, g2⟩ := g; obtain ⟨g1', g2'⟩ := g'; simpa using h) (fun g w w' h hg => ⟨hg.keep h.1, hg.keep h.2⟩) ?_
  apply Exists.intro; apply Exists.intro
  refine ⟨fun wb hb => ?_, fun o ho wb hb => ?_, fun g wb hb hg => ?_, fun g8 w8 hg8 x8 => ?_⟩
  · obtain ⟨_, _, _, _, _, _, _, _⟩ := hb.at8 K7.out
    obtain ⟨_, _, _, _, _, _, _, _⟩ := hb.at8 B7.out
    simp only [headOps, List.contains, List.elem, Nat.reduceAdd, Nat.reduceBEq, reduceIte, Bool.false_eq_true, dumOp]
    repeat (first | go_big_quiet_step (first | (fail)) | quiet_step (fail))
    exact wpQuiet_nil rfl
  · cases ho
    exact ⟨_, _, by kernel_rfl, (toBn_any _ _ _ _ xs _ _ _ _ _ _ ts wb hn hm (HR.out.keep (G7.out.trans hb)) (HRT.out.keep (G7.out.trans hb))).mono fun e w' ⟨g1, g2, he, hx, _, hg⟩ => ⟨(g1, g2), he, ⟨hx.1, hx.2.1⟩, hg⟩⟩
  · have HX := hid hg; have HB := hid hb
    simp only [Act.put, List.setIfInBounds_toArray, List.set_cons_succ, List.set_cons_zero]
    simp only [headOps, List.contains, List.elem, Nat.reduceAdd, Nat.reduceBEq, reduceIte, Bool.false_eq_true, dumOp]
    repeat (first | go_big_quiet_step (first | (go_at_call 13; exact Calls.of_gr (eqBn_any _ _ _ _ _ _ xs _ _ _ _ _ _ _ _ ts _ hn hm (hid (RdF.of_block (Gr.keep (w := wb) ⟨⟨_, _⟩, rfl⟩ (HB.out.keep X7.out)))) (hid (RdF.of_block (Gr.keep (w := wb) ⟨⟨_, _⟩, rfl⟩ HX.out.1))) (hid (RdTg.of_block (Gr.keep (w := wb) ⟨⟨_, _⟩, rfl⟩ (HB.out.keep T7.out)))) (hid (RdTg.of_block (Gr.keep (w := wb) ⟨⟨_, _⟩, rfl⟩ HX.out.2)))))) | quiet_step (fail))
    exact wpQuiet_nil rfl
  simp only [List.drop_succ_cons, List.drop_zero]
  have G8 := hid (G7.out.trans hg8)
  clear hg8 x8
  go_wp2_with fail
  go_ret
  exact ⟨rfl, G8.out⟩
set_option maxRecDepth 20000 in
set_option maxHeartbeats 400000 in
theorem lawEndsOf_big (a b : Int) (A : Option Addr) (cap : Nat) (xs : List (Int × Int)) (N : Int) (kb : Bool) (u v : Int) (B : Option Addr) (capB : Nat) (ts : List Tgv) (h0 h1 h2 h3 h4 : Int) (w : World) (hrT : RawTg w (.slice B ts.length capB) ts) (hn : xs.length ≤ 9223372036854775807) (hm : ts.length ≤ 9223372036854775807) (hz : ∀ x ∈ ts, x.nm.size ≤ 9223372036854775807) (hq : szToB xs ts 1048576 = -1) :
    Calls Try.prog 7 #[bnc a b A xs.length cap N kb u v B ts.length capB, sho h0 h1 h2 h3 h4] w fun x w' => x = .returned (.bool true) ∧ Gr w w' := by
  have HRT := hid hrT; have HZ := hid hz; have HQ := hid hq
  clear hrT hz hq
  go_enter Try.func7, Try.ntmps7
  go_wp2_with fail
  refine (szBn_is _ _ _ _ xs _ _ _ _ _ _ ts _ _ _ (HRT.out.keep (((Gr.refl w).al _).al _)) hn hm HZ.out (by omega) (by omega) HQ.out).mono ?_
  rintro e w1 ⟨rfl, hg1⟩
  obtain ⟨x1_0, x1_1, hz1, g1⟩ := alloc2 hg1
  obtain ⟨_, _, _, _, _, _, _, _⟩ := cells8 x1_0
  have _ := fz x1_0
  have _ := ltb x1_0
  obtain ⟨_, _, _, _, _⟩ := cells5 x1_1
  have _ := fz x1_1
  have _ := ltb x1_1
  have X1_0 := hid x1_0; clear x1_0
  have X1_1 := hid x1_1; clear x1_1
  have G1 := hid (g1)
  clear hg1 g1
  go_wp2
  go_ret
  exact ⟨rfl, G1.out⟩

open Go.ChangeShapes Go.WideShapes Go.ChangeAt Go.Joins
theorem laidOutEndsOf : laidOutB Try.prog = true := by as_aux_lemma => kernel_rfl
set_option maxRecDepth 100000 in
theorem liftedEndsOf (os : Os) (started : os.Started) (H : Type) (enc : TypeId × Value → H) :
    ReturnsInHanded {} Try.checked os 7 .any (Rows.fnExactEndsOfSpec.pre6 enc Try.prog Try.f7 Rows.fnExactEndsOfRow.domain false) (Rows.fnExactEndsOfSpec.post enc Try.prog Try.f7 false true false false) := by
  refine returnsInHanded_of_change (C := Try.checked) ownNone started (by kernel_rfl) Try.func7
    (ChangeSpec.witness6 (enc := enc) (C := Try.checked) false ⟨#[], #[.agg #[.int .i64 0, .int .i64 0, .slice none 0 0, .int .i64 0, .bool false, .int .i64 0, .int .i64 0, .slice none 0 0], .agg #[.int .i64 0, .int .i64 0, .int .i64 0, .int .i64 0, .int .i64 0]], []⟩ 8 (by kernel_rfl) (by kernel_rfl) (by kernel_rfl) (by kernel_rfl)) ?_
  intro W base args ds gs before hval0 hW _ _
  have hval : ∀ (j : Nat) t v, Try.f7.params[j]? = some t → args[j]? = some v → Value.okWide Try.prog W .any base t v := hval0
  have hW' := hW
  obtain ⟨p, q, hA0, hV, rfl, _, _⟩ := hW
  have hA : DataW.TrodAll enc Try.prog W 0 (fun _ => true) true Try.f7.params.toList args.toList ds p := hA0
  rw [Try.params7] at hA hval
  obtain ⟨v0, v1, d0, d1, p_0, p_1, rfl, rfl, rfl, h0, h1⟩ := trodAll_two hA
  obtain ⟨rfl, rfl⟩ := trodVars_none hV
  clear hA0 hval0
  simp only [List.append_nil] at hW'
  have hlt : ∀ x ∈ p_0 ++ p_1, x.block < W.heap.size := fun x hx => by simpa using hW'.lt x (by simpa using hx)
  have done : ∀ (e : Ending) (W' : World), e = .returned (.bool true) ∧ Gr W W' → ∃ v, e = .returned v ∧ Rows.fnExactEndsOfSpec.post enc Try.prog Try.f7 false true false false W #[v0, v1] v W' := fun e W' ⟨he, hg⟩ => by
    subst he
    exact ⟨_, rfl, _, _, _, [], p_0 ++ p_1, [], hW', trodAll_mk1 (shut_bool Try.underlying4 _), trodAll_mk2 (Below.trod laidOutEndsOf (by kernel_rfl) (of_decide_eq_true (by kernel_rfl)) h0 hg.below fun x hx => hlt x (by simp [hx])) (Below.trod laidOutEndsOf (by kernel_rfl) (of_decide_eq_true (by kernel_rfl)) h1 hg.below fun x hx => hlt x (by simp [hx])), rfl, hg.below.frame _, fun h => by cases h⟩
  obtain ⟨a, b, A, m, cap, N, kb, u, v, B, l, capB, rfl, hmax, hmaxB, xs, ts, rfl, rfl, hraw, hrawT, hz⟩ := open_bench (hval 0 31 v0 rfl rfl) h0
  obtain ⟨h0_, h1_, h2_, h3_, h4_, rfl⟩ := open_sho (hval 1 50 v1 rfl rfl) h1
  obtain ⟨qz, hqz⟩ : ∃ q, szToB xs ts 1048576 = q := ⟨_, rfl⟩
  obtain ⟨bq1, bq2, bq3⟩ := szToB_bd (by omega) hqz
  by_cases hq0 : 0 ≤ qz
  · obtain ⟨hn, hm⟩ := bq3 hq0
    obtain ⟨R0, R1, R2, R3, R4, hs, hi⟩ := bothEndsOf2 a b xs N kb u v ts h0_ h1_ h2_ h3_ h4_ (by omega) (by omega) hz
    exact (lawEndsOf a b A cap xs N kb u v B capB ts h0_ h1_ h2_ h3_ h4_ R0 R1 R2 R3 R4 qz W hraw hrawT (by omega) (by omega) hz hqz hq0 hs (fun A g c d w _ _ X T => hi A g c d w X T)).mono done
  · exact (lawEndsOf_big a b A cap xs N kb u v B capB ts h0_ h1_ h2_ h3_ h4_ W hrawT hmax hmaxB hz (by omega)).mono done

set_option maxHeartbeats 2000000 in
theorem closedEndsOf : joinedFacts Try.pinned.checked.prog 7 Try.f7 Rows.fnExactEndsOfSpec Rows.fnExactEndsOfRow = true := by
  unfold joinedFacts
  refine Bool.and_eq_true_iff.2 ⟨?_, by as_aux_lemma => kernel_rfl⟩
  refine Bool.and_eq_true_iff.2 ⟨?_, by as_aux_lemma => kernel_rfl⟩
  refine Bool.and_eq_true_iff.2 ⟨?_, by as_aux_lemma => kernel_rfl⟩
  refine Bool.and_eq_true_iff.2 ⟨?_, by as_aux_lemma => kernel_rfl⟩
  refine Bool.and_eq_true_iff.2 ⟨?_, by rw [fact_make]; rfl⟩
  refine Bool.and_eq_true_iff.2 ⟨?_, by rw [fact_final]; rfl⟩
  refine Bool.and_eq_true_iff.2 ⟨?_, fact_enters⟩
  refine Bool.and_eq_true_iff.2 ⟨?_, by as_aux_lemma => kernel_rfl⟩
  refine Bool.and_eq_true_iff.2 ⟨?_, by as_aux_lemma => kernel_rfl⟩
  refine Bool.and_eq_true_iff.2 ⟨?_, by as_aux_lemma => kernel_rfl⟩
  refine Bool.and_eq_true_iff.2 ⟨?_, by as_aux_lemma => kernel_rfl⟩
  refine Bool.and_eq_true_iff.2 ⟨?_, by as_aux_lemma => kernel_rfl⟩
  refine Bool.and_eq_true_iff.2 ⟨?_, by as_aux_lemma => kernel_rfl⟩
  refine Bool.and_eq_true_iff.2 ⟨?_, by as_aux_lemma => kernel_rfl⟩
  refine Bool.and_eq_true_iff.2 ⟨?_, by as_aux_lemma => kernel_rfl⟩
  refine Bool.and_eq_true_iff.2 ⟨?_, by as_aux_lemma => kernel_rfl⟩
  refine Bool.and_eq_true_iff.2 ⟨?_, by as_aux_lemma => kernel_rfl⟩
  refine Bool.and_eq_true_iff.2 ⟨?_, by as_aux_lemma => kernel_rfl⟩
  refine Bool.and_eq_true_iff.2 ⟨?_, by as_aux_lemma => kernel_rfl⟩
  refine Bool.and_eq_true_iff.2 ⟨?_, by as_aux_lemma => kernel_rfl⟩
  refine Bool.and_eq_true_iff.2 ⟨?_, by as_aux_lemma => kernel_rfl⟩
  refine Bool.and_eq_true_iff.2 ⟨?_, by as_aux_lemma => kernel_rfl⟩
  refine Bool.and_eq_true_iff.2 ⟨?_, by as_aux_lemma => kernel_rfl⟩
  refine Bool.and_eq_true_iff.2 ⟨?_, by as_aux_lemma => kernel_rfl⟩
  refine Bool.and_eq_true_iff.2 ⟨?_, by as_aux_lemma => kernel_rfl⟩
  refine Bool.and_eq_true_iff.2 ⟨?_, by as_aux_lemma => kernel_rfl⟩
  refine Bool.and_eq_true_iff.2 ⟨?_, by as_aux_lemma => kernel_rfl⟩
  refine Bool.and_eq_true_iff.2 ⟨?_, by as_aux_lemma => kernel_rfl⟩
  refine Bool.and_eq_true_iff.2 ⟨?_, by as_aux_lemma => kernel_rfl⟩
  refine Bool.and_eq_true_iff.2 ⟨?_, by as_aux_lemma => kernel_rfl⟩
  as_aux_lemma => kernel_rfl
theorem endsOf_holds : Rows.FnExactEndsOfSaid :=
  OpenClaim.holds_of_wide 7 Try.f7 rfl rfl rfl rfl rfl rfl rfl ⟨rfl, rfl, rfl, rfl, rfl⟩ rfl rfl rfl rfl rfl (by as_aux_lemma => kernel_rfl) Try.func7 closedEndsOf
    (of_decide_eq_true (by as_aux_lemma => kernel_rfl)) (by unfold Func.isWrapper; rw [if_neg (by decide +kernel)]; exact ⟨rfl, rfl⟩)
    (fun os started H enc _ => liftedEndsOf os started H enc)
#print axioms endsOf_holds
end Go.Proofs.Ytflfjedimcbfeaa
