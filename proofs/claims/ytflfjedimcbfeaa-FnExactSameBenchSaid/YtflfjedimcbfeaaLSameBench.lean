/- The law FnExactSameBench of the laws package returns true for every two benches, valid or not; they read behind the call as before it. No condition. -/
import Derived.Test.YtflfjedimcbfeaaRows
import Derived.Test.YtflfjedimcbfeaaBk
import Derived.Test.YtflfjedimcbfeaaBh
import Derived.Test.YtflfjedimcbfeaaBo
import Derived.Test.YtflfjedimcbfeaaRd
import Derived.Test.YtflfjedimcbfeaaRegL
import Derived.Test.YtflfjedimcbfeaaFacts
import Derived.ProofKit
import Derived.Carry
import Derived.ChangeMaps5
import Derived.Deep.CutRange
import Derived.Deep.RegionWith
import Derived.Lib.SmallJoins
namespace Go.Proofs.Ytflfjedimcbfeaa
open Go.RowKit Go.Sort

set_option maxRecDepth 20000 in
set_option maxHeartbeats 4000000 in
theorem lawSameBench (a b a' b' : Int) (A A' : Option Addr) (cap cap' : Nat) (xs ys : List (Int × Int)) (N N' : Int) (kb kb' : Bool) (u v u' v' : Int) (B B' : Option Addr) (capB capB' : Nat) (ts ss : List Tgv) (q q' : Int) (R : Bool) (w : World) (hr : RawF w (.slice A xs.length cap) xs) (hr' : RawF w (.slice A' ys.length cap') ys) (hrT : RawTg w (.slice B ts.length capB) ts) (hrT' : RawTg w (.slice B' ss.length capB') ss) (hn : xs.length ≤ 1048576) (hm : ys.length ≤ 1048576) (hp : ts.length ≤ 1048576) (hp' : ss.length ≤ 1048576) (hz : ∀ x ∈ ts, x.nm.size ≤ 9223372036854775807) (hz' : ∀ x ∈ ss, x.nm.size ≤ 9223372036854775807) (hq : szToB xs ts 1048576 = q) (hq0 : 0 ≤ q) (hq1 : q ≤ 1048576) (hq' : szToB ys ss q = q') (hq0' : 0 ≤ q')
    (hs : ∀ (A A' B B' : Option Addr) (c c' d d' : Nat) (w : World), Hid (RdF w A xs) → Hid (RdF w A' ys) → Hid (RdTg w B ts) → Hid (RdTg w B' ss) → Calls Try.prog 14 #[bnc a b A xs.length c N kb u v B ts.length d, bnc a' b' A' ys.length c' N' kb' u' v' B' ss.length d'] w fun x w' => x = .returned (.bool R) ∧ Gr w w')
    (hi : ∀ (A A' B B' : Option Addr) (c c' d d' : Nat) (w : World), Hid (RdF w A xs) → Hid (RdF w A' ys) → Hid (RdTg w B ts) → Hid (RdTg w B' ss) → Calls Try.prog 15 #[bnc a b A xs.length c N kb u v B ts.length d, bnc a' b' A' ys.length c' N' kb' u' v' B' ss.length d'] w fun x w' => x = .returned (.bool R) ∧ Gr w w') :
    Calls Try.prog 4 #[bnc a b A xs.length cap N kb u v B ts.length capB, bnc a' b' A' ys.length cap' N' kb' u' v' B' ss.length capB'] w fun x w' => x = .returned (.bool true) ∧ Gr w w' := by
  have HS := hid hs; have HI := hid hi; have HR := hid hr; have HR' := hid hr'; have HT := hid hrT; have HT' := hid hrT'; have HZ := hid hz; have HZ' := hid hz'; have HQ := hid hq; have HQ' := hid hq'
  clear hs hi hr hr' hrT hrT' hz hz' hq hq'
  go_enter Try.func4, Try.ntmps4
  go_wp2_with fail
  refine (szBn_is _ _ _ _ xs _ _ _ _ _ _ ts _ _ _ (HT.out.keep (((Gr.refl w).al _).al _)) (by omega) (by omega) HZ.out (by omega) (by omega) HQ.out).mono ?_
  rintro e w1 ⟨rfl, hg1⟩
  obtain ⟨x1_0, x1_1, hz1, g1⟩ := alloc2 hg1
  obtain ⟨_, _, _, _, _, _, _, _⟩ := cells8 x1_0
  have _ := fz x1_0
  have _ := ltb x1_0
  obtain ⟨_, _, _, _, _, _, _, _⟩ := cells8 x1_1
  have _ := fz x1_1
  have _ := ltb x1_1
  have X1_0 := hid x1_0; clear x1_0
  have X1_1 := hid x1_1; clear x1_1
  have G1 := hid (g1)
  clear hg1 g1
  go_wp2_with fail
  refine (szBn_is _ _ _ _ ys _ _ _ _ _ _ ss _ _ _ (HT'.out.keep G1.out) (by omega) (by omega) HZ'.out (by omega) (by omega) HQ'.out).mono ?_
  rintro e w2 ⟨rfl, hg2⟩
  have x2_1 := hg2.keep X1_0.out
  have x2_2 := hg2.keep X1_1.out
  obtain ⟨_, _, _, _, _, _, _, _⟩ := cells8 x2_1
  have _ := fz x2_1
  have _ := ltb x2_1
  obtain ⟨_, _, _, _, _, _, _, _⟩ := cells8 x2_2
  have _ := fz x2_2
  have _ := ltb x2_2
  have X2_1 := hid x2_1; clear x2_1
  have X2_2 := hid x2_2; clear x2_2
  have G2 := hid (G1.out.trans hg2)
  clear hg2
  go_wp2_with fail
  go_cut [6] from 20 to 24 (fun s wx => s = .bool R ∧ Gr w2 wx)
  case first =>
    go_region_with (first | (go_at_call_of 11 (Value.slice A xs.length cap); refine (toBn_any _ _ _ _ xs _ _ _ _ _ _ ts _ hn hp (HR.out.keep (G2.out.trans (Gr.drew _))) (HT.out.keep (G2.out.trans (Gr.drew _)))).mono ?_; rintro x w3 ⟨g1, g2, rfl, ⟨x3, t3, _⟩, _, hg3⟩; have X3 := hid x3; have T3 := hid t3; have G3 := hid ((Gr.drew _).trans hg3); obtain ⟨_, _, _, _, _, _, _, _⟩ := cells8 (G3.out.keep X2_2.out); clear x3 t3 hg3) | (go_at_call_of 11 (Value.slice A' ys.length cap'); refine (toBn_any _ _ _ _ ys _ _ _ _ _ _ ss _ hm hp' (HR'.out.keep (G2.out.trans G3.out)) (HT'.out.keep (G2.out.trans G3.out))).mono ?_; rintro x w4 ⟨g3, g4, rfl, ⟨x4, t4, _⟩, _, hg4⟩; have X4 := hid x4; have T4 := hid t4; have X34 := hid (hg4.keep X3.out); have T34 := hid (hg4.keep T3.out); have G4 := hid (G3.out.trans hg4); clear x4 t4 hg4) | (go_at_call 14; refine (HS.out _ _ _ _ _ _ _ _ _ (hid (RdF.of_block X34.out)) (hid (RdF.of_block X4.out)) (hid (RdTg.of_block T34.out)) (hid (RdTg.of_block T4.out))).mono ?_; rintro x w5 ⟨rfl, hg5⟩; have G5 := hid (G4.out.trans hg5); clear hg5))
    all_goals (go_wp2_with fail; go_meet; exact ⟨rfl, G5.out⟩)
  case rest =>
    obtain ⟨rfl, hgc⟩ := hcut
    have GC := hid (G2.out.trans hgc); have C1 := hid (hgc.keep X2_1.out); have C2 := hid (hgc.keep X2_2.out); clear hgc
    obtain ⟨_, _, _, _, _, _, _, _⟩ := cells8 C1.out
    have _ := ltb C1.out
    obtain ⟨_, _, _, _, _, _, _, _⟩ := cells8 C2.out
    have _ := ltb C2.out
    go_wp2_with fail
    refine (toBn_any _ _ _ _ xs _ _ _ _ _ _ ts _ hn hp (HR.out.keep GC.out) (HT.out.keep GC.out)).mono ?_
    rintro x w3 ⟨g1, g2, rfl, ⟨x3, t3, _⟩, _, hg3⟩
    have X3 := hid x3; have T3 := hid t3; have D1 := hid (hg3.keep C1.out); have D2 := hid (hg3.keep C2.out); have G3 := hid (GC.out.trans hg3)
    clear x3 t3 hg3
    obtain ⟨_, _, _, _, _, _, _, _⟩ := cells8 D2.out
    have _ := ltb D2.out
    go_wp2_with fail
    refine (toBn_any _ _ _ _ ys _ _ _ _ _ _ ss _ hm hp' (HR'.out.keep (G3.out.al _)) (HT'.out.keep (G3.out.al _))).mono ?_
    rintro x w4 ⟨g3, g4, rfl, ⟨x4, t4, _⟩, _, hg4⟩
    obtain ⟨k4, _, g4'⟩ := alloc1 hg4
    have X4 := hid x4; have T4 := hid t4; have K4 := hid k4; have X34 := hid (g4'.keep X3.out); have T34 := hid (g4'.keep T3.out); have E1 := hid (g4'.keep D1.out); have E2 := hid (g4'.keep D2.out); have G4 := hid (G3.out.trans g4')
    clear x4 t4 hg4 k4 g4'
    obtain ⟨_, _, _, _, _, _, _, _⟩ := cells8 K4.out
    have _ := ltb K4.out
    go_wp2_with fail
    refine (HI.out _ _ _ _ _ _ _ _ _ (hid (RdF.of_block (((Gr.refl w4).al _).keep X34.out))) (hid (RdF.of_block (((Gr.refl w4).al _).keep X4.out))) (hid (RdTg.of_block (((Gr.refl w4).al _).keep T34.out))) (hid (RdTg.of_block (((Gr.refl w4).al _).keep T4.out)))).mono ?_
    rintro x w5 ⟨rfl, hg5⟩
    obtain ⟨k5, _, g5⟩ := alloc1 hg5
    have K5 := hid k5; have L5 := hid (g5.keep K4.out); have X35 := hid (g5.keep X34.out); have T35 := hid (g5.keep T34.out); have X5 := hid (g5.keep X4.out); have T5 := hid (g5.keep T4.out); have F1 := hid (g5.keep E1.out); have F2 := hid (g5.keep E2.out); have G5 := hid (G4.out.trans g5)
    clear hg5 k5 g5
    obtain ⟨_, _, _, _, _, _, _, _⟩ := cells8 L5.out
    have _ := ltb L5.out
    obtain ⟨_, _, _, _, _, _, _, _⟩ := cells8 F1.out
    have _ := ltb F1.out
    cases R
    all_goals
      go_wp2_with fail
      go_cut [39] from 35 to 39 (fun s wx => s = .bool false ∧ Gr w5 wx)
      case first =>
        go_region_with (first | (go_at_call 11; refine (toBn_any _ _ _ _ xs _ _ _ _ _ _ ts _ hn hp (HR.out.keep (G5.out.trans (Gr.drew _))) (HT.out.keep (G5.out.trans (Gr.drew _)))).mono ?_; rintro x w6 ⟨g5, g6, rfl, ⟨x6, t6, _⟩, _, hg6⟩; have X6 := hid x6; have T6 := hid t6; have G6 := hid ((Gr.drew _).trans hg6); have XA := hid (G6.out.keep X35.out); have TA := hid (G6.out.keep T35.out); obtain ⟨_, _, _, _, _, _, _, _⟩ := cells8 (G6.out.keep L5.out); clear x6 t6 hg6) | (go_at_call 13; refine (eqBn_any _ _ _ _ _ _ xs _ _ _ _ _ _ _ _ ts _ hn hp (hid (RdF.of_block XA.out)) (hid (RdF.of_block X6.out)) (hid (RdTg.of_block TA.out)) (hid (RdTg.of_block T6.out))).mono ?_; rintro x w7 ⟨rfl, hg7⟩; have G7 := hid (G6.out.trans hg7); clear hg7))
        all_goals (go_wp2_with fail; go_meet; exact ⟨rfl, G7.out⟩)
      case rest =>
        obtain ⟨rfl, hgc⟩ := hcut
        have GD := hid (G5.out.trans hgc); have M2 := hid (hgc.keep F2.out); have M0 := hid (hgc.keep K5.out); have XB := hid (hgc.keep X5.out); have TB := hid (hgc.keep T5.out); clear hgc
        obtain ⟨_, _, _, _, _, _, _, _⟩ := cells8 M2.out
        have _ := ltb M2.out
        obtain ⟨_, _, _, _, _, _, _, _⟩ := cells8 M0.out
        have _ := ltb M0.out
        go_wp2_with fail
        go_region_with (first | (go_at_call 11; refine (toBn_any _ _ _ _ ys _ _ _ _ _ _ ss _ hm hp' (HR'.out.keep (GD.out.trans (Gr.drew _))) (HT'.out.keep (GD.out.trans (Gr.drew _)))).mono ?_; rintro x w6 ⟨g5, g6, rfl, ⟨x6, t6, _⟩, _, hg6⟩; have X6 := hid x6; have T6 := hid t6; have G6 := hid ((Gr.drew _).trans hg6); have XA := hid (G6.out.keep XB.out); have TA := hid (G6.out.keep TB.out); obtain ⟨_, _, _, _, _, _, _, _⟩ := cells8 (G6.out.keep M0.out); clear x6 t6 hg6) | (go_at_call 13; refine (eqBn_any _ _ _ _ _ _ ys _ _ _ _ _ _ _ _ ss _ hm hp' (hid (RdF.of_block XA.out)) (hid (RdF.of_block X6.out)) (hid (RdTg.of_block TA.out)) (hid (RdTg.of_block T6.out))).mono ?_; rintro x w7 ⟨rfl, hg7⟩; have G7 := hid ((GD.out.trans G6.out).trans hg7); clear hg7))
        all_goals
          go_wp2
          go_ret
          exact ⟨rfl, G7.out⟩
set_option maxRecDepth 20000 in
set_option maxHeartbeats 400000 in
theorem lawSameBench_big (a b a' b' : Int) (A A' : Option Addr) (cap cap' : Nat) (xs ys : List (Int × Int)) (N N' : Int) (kb kb' : Bool) (u v u' v' : Int) (B B' : Option Addr) (capB capB' : Nat) (ts ss : List Tgv) (w : World) (hrT : RawTg w (.slice B ts.length capB) ts) (hn : xs.length ≤ 9223372036854775807) (hm : ts.length ≤ 9223372036854775807) (hz : ∀ x ∈ ts, x.nm.size ≤ 9223372036854775807) (hq : szToB xs ts 1048576 = -1) :
    Calls Try.prog 4 #[bnc a b A xs.length cap N kb u v B ts.length capB, bnc a' b' A' ys.length cap' N' kb' u' v' B' ss.length capB'] w fun e w' => e = .returned (.bool true) ∧ Gr w w' := by
  have HT := hid hrT; have HZ := hid hz; have HQ := hid hq
  clear hrT hz hq
  go_enter Try.func4, Try.ntmps4
  go_wp2_with fail
  refine (szBn_is _ _ _ _ xs _ _ _ _ _ _ ts _ _ _ (HT.out.keep (((Gr.refl w).al _).al _)) (by omega) (by omega) HZ.out (by omega) (by omega) HQ.out).mono ?_
  rintro e w1 ⟨rfl, hg1⟩
  obtain ⟨x1_0, x1_1, hz1, g1⟩ := alloc2 hg1
  obtain ⟨_, _, _, _, _, _, _, _⟩ := cells8 x1_0
  have _ := fz x1_0
  have _ := ltb x1_0
  obtain ⟨_, _, _, _, _, _, _, _⟩ := cells8 x1_1
  have _ := fz x1_1
  have _ := ltb x1_1
  have X1_0 := hid x1_0; clear x1_0
  have X1_1 := hid x1_1; clear x1_1
  have G1 := hid (g1)
  clear hg1 g1
  go_wp2
  go_ret
  exact ⟨rfl, G1.out⟩
set_option maxRecDepth 20000 in
set_option maxHeartbeats 400000 in
theorem lawSameBench_big2 (a b a' b' : Int) (A A' : Option Addr) (cap cap' : Nat) (xs ys : List (Int × Int)) (N N' : Int) (kb kb' : Bool) (u v u' v' : Int) (B B' : Option Addr) (capB capB' : Nat) (ts ss : List Tgv) (q : Int) (w : World) (hrT : RawTg w (.slice B ts.length capB) ts) (hrT' : RawTg w (.slice B' ss.length capB') ss) (hn : xs.length ≤ 9223372036854775807) (hp : ts.length ≤ 9223372036854775807) (hm : ys.length ≤ 9223372036854775807) (hp' : ss.length ≤ 9223372036854775807) (hz : ∀ x ∈ ts, x.nm.size ≤ 9223372036854775807) (hz' : ∀ x ∈ ss, x.nm.size ≤ 9223372036854775807) (hq : szToB xs ts 1048576 = q) (hq0 : 0 ≤ q) (hq1 : q ≤ 1048576) (hq' : szToB ys ss q = -1) :
    Calls Try.prog 4 #[bnc a b A xs.length cap N kb u v B ts.length capB, bnc a' b' A' ys.length cap' N' kb' u' v' B' ss.length capB'] w fun e w' => e = .returned (.bool true) ∧ Gr w w' := by
  have HT := hid hrT; have HT' := hid hrT'; have HZ := hid hz; have HZ' := hid hz'; have HQ := hid hq; have HQ' := hid hq'
  clear hrT hrT' hz hz' hq hq'
  go_enter Try.func4, Try.ntmps4
  go_wp2_with fail
  refine (szBn_is _ _ _ _ xs _ _ _ _ _ _ ts _ _ _ (HT.out.keep (((Gr.refl w).al _).al _)) (by omega) (by omega) HZ.out (by omega) (by omega) HQ.out).mono ?_
  rintro e w1 ⟨rfl, hg1⟩
  obtain ⟨x1_0, x1_1, hz1, g1⟩ := alloc2 hg1
  obtain ⟨_, _, _, _, _, _, _, _⟩ := cells8 x1_0
  have _ := fz x1_0
  have _ := ltb x1_0
  obtain ⟨_, _, _, _, _, _, _, _⟩ := cells8 x1_1
  have _ := fz x1_1
  have _ := ltb x1_1
  have X1_0 := hid x1_0; clear x1_0
  have X1_1 := hid x1_1; clear x1_1
  have G1 := hid (g1)
  clear hg1 g1
  go_wp2_with fail
  refine (szBn_is _ _ _ _ ys _ _ _ _ _ _ ss _ _ _ (HT'.out.keep G1.out) (by omega) (by omega) HZ'.out (by omega) (by omega) HQ'.out).mono ?_
  rintro e w2 ⟨rfl, hg2⟩
  have x2_1 := hg2.keep X1_0.out
  have x2_2 := hg2.keep X1_1.out
  obtain ⟨_, _, _, _, _, _, _, _⟩ := cells8 x2_1
  have _ := fz x2_1
  have _ := ltb x2_1
  obtain ⟨_, _, _, _, _, _, _, _⟩ := cells8 x2_2
  have _ := fz x2_2
  have _ := ltb x2_2
  have X2_1 := hid x2_1; clear x2_1
  have X2_2 := hid x2_2; clear x2_2
  have G2 := hid (G1.out.trans hg2)
  clear hg2
  go_wp2
  go_ret
  exact ⟨rfl, G2.out⟩

open Go.ChangeShapes Go.WideShapes Go.ChangeAt Go.Joins
theorem laidOutSameBench : laidOutB Try.prog = true := by as_aux_lemma => kernel_rfl
set_option maxRecDepth 100000 in
theorem liftedSameBench (os : Os) (started : os.Started) (H : Type) (enc : TypeId × Value → H) :
    ReturnsInHanded {} Try.checked os 4 .any (Rows.fnExactSameBenchSpec.pre6 enc Try.prog Try.f4 Rows.fnExactSameBenchRow.domain false) (Rows.fnExactSameBenchSpec.post enc Try.prog Try.f4 false true false false) := by
  refine returnsInHanded_of_change (C := Try.checked) ownNone started (by kernel_rfl) Try.func4
    (ChangeSpec.witness6 (enc := enc) (C := Try.checked) false ⟨#[], #[.agg #[.int .i64 0, .int .i64 0, .slice none 0 0, .int .i64 0, .bool false, .int .i64 0, .int .i64 0, .slice none 0 0], .agg #[.int .i64 0, .int .i64 0, .slice none 0 0, .int .i64 0, .bool false, .int .i64 0, .int .i64 0, .slice none 0 0]], []⟩ 8 (by kernel_rfl) (by kernel_rfl) (by kernel_rfl) (by kernel_rfl)) ?_
  intro W base args ds gs before hval0 hW _ _
  have hval : ∀ (j : Nat) t v, Try.f4.params[j]? = some t → args[j]? = some v → Value.okWide Try.prog W .any base t v := hval0
  have hW' := hW
  obtain ⟨p, q, hA0, hV, rfl, _, _⟩ := hW
  have hA : DataW.TrodAll enc Try.prog W 0 (fun _ => true) true Try.f4.params.toList args.toList ds p := hA0
  rw [Try.params4] at hA hval
  obtain ⟨v0, v1, d0, d1, p0, p1, rfl, rfl, rfl, h0, h1⟩ := trodAll_two hA
  obtain ⟨rfl, rfl⟩ := trodVars_none hV
  clear hA0 hval0
  simp only [List.append_nil] at hW'
  have hlt : ∀ x ∈ p0 ++ p1, x.block < W.heap.size := fun x hx => by simpa using hW'.lt x hx
  have done : ∀ (e : Ending) (W' : World), e = .returned (.bool true) ∧ Gr W W' → ∃ v, e = .returned v ∧ Rows.fnExactSameBenchSpec.post enc Try.prog Try.f4 false true false false W #[v0, v1] v W' := fun e W' ⟨he, hg⟩ => by
    subst he
    exact ⟨_, rfl, _, _, _, [], p0 ++ p1, [], hW', trodAll_mk1 (shut_bool Try.underlying4 _), trodAll_mk2 (Below.trod laidOutSameBench (by kernel_rfl) (of_decide_eq_true (by kernel_rfl)) h0 hg.below fun x hx => hlt x (List.mem_append_left _ hx)) (Below.trod laidOutSameBench (by kernel_rfl) (of_decide_eq_true (by kernel_rfl)) h1 hg.below fun x hx => hlt x (List.mem_append_right _ hx)), rfl, hg.below.frame _, fun h => by cases h⟩
  obtain ⟨a, b, A, m, cap, N, kb, u, v, B, l, capB, rfl, hmax, hmaxB, xs, ts, rfl, rfl, hraw, hrawT, hz⟩ := open_bench (hval 0 31 v0 rfl rfl) h0
  obtain ⟨a', b', A', m', cap', N', kb', u', v', B', l', capB', rfl, hmax', hmaxB', ys, ss, rfl, rfl, hraw', hrawT', hz'⟩ := open_bench (hval 1 31 v1 rfl rfl) h1
  obtain ⟨qz, hqz⟩ : ∃ q, szToB xs ts 1048576 = q := ⟨_, rfl⟩
  obtain ⟨bq1, bq2, bq3⟩ := szToB_bd (by omega) hqz
  by_cases hq0 : 0 ≤ qz
  · obtain ⟨hn, hp⟩ := bq3 hq0
    obtain ⟨qy, hqy⟩ : ∃ q, szToB ys ss qz = q := ⟨_, rfl⟩
    obtain ⟨cq1, cq2, cq3⟩ := szToB_bd hq0 hqy
    by_cases hq0' : 0 ≤ qy
    · obtain ⟨hm, hp'⟩ := cq3 hq0'
      obtain ⟨R, hs, hi⟩ := bothSameBench a b a' b' xs ys N N' kb kb' u v u' v' ts ss (by omega) (by omega) (by omega) (by omega)
      exact (lawSameBench a b a' b' A A' cap cap' xs ys N N' kb kb' u v u' v' B B' capB capB' ts ss qz qy R W hraw hraw' hrawT hrawT' (by omega) (by omega) (by omega) (by omega) hz hz' hqz hq0 bq2 hqy hq0' hs hi).mono done
    · exact (lawSameBench_big2 a b a' b' A A' cap cap' xs ys N N' kb kb' u v u' v' B B' capB capB' ts ss qz W hrawT hrawT' hmax hmaxB hmax' hmaxB' hz hz' hqz hq0 bq2 (by omega)).mono done
  · exact (lawSameBench_big a b a' b' A A' cap cap' xs ys N N' kb kb' u v u' v' B B' capB capB' ts ss W hrawT hmax hmaxB hz (by omega)).mono done

set_option maxHeartbeats 2000000 in
theorem closedSameBench : joinedFacts Try.pinned.checked.prog 4 Try.f4 Rows.fnExactSameBenchSpec Rows.fnExactSameBenchRow = true := by
  unfold joinedFacts
  refine Bool.and_eq_true_iff.2 ⟨?_, by as_aux_lemma => kernel_rfl⟩
  refine Bool.and_eq_true_iff.2 ⟨?_, by as_aux_lemma => kernel_rfl⟩
  refine Bool.and_eq_true_iff.2 ⟨?_, by as_aux_lemma => kernel_rfl⟩
  refine Bool.and_eq_true_iff.2 ⟨?_, by as_aux_lemma => kernel_rfl⟩
  refine Bool.and_eq_true_iff.2 ⟨?_, by rw [fact_make]; rfl⟩
  refine Bool.and_eq_true_iff.2 ⟨?_, by rw [fact_final]; rfl⟩
  refine Bool.and_eq_true_iff.2 ⟨?_, fact_enters⟩
  refine Bool.and_eq_true_iff.2 ⟨?_, by as_aux_lemma => kernel_rfl⟩
  refine Bool.and_eq_true_iff.2 ⟨?_, by as_aux_lemma => kernel_rfl⟩
  refine Bool.and_eq_true_iff.2 ⟨?_, by as_aux_lemma => kernel_rfl⟩
  refine Bool.and_eq_true_iff.2 ⟨?_, by as_aux_lemma => kernel_rfl⟩
  refine Bool.and_eq_true_iff.2 ⟨?_, by as_aux_lemma => kernel_rfl⟩
  refine Bool.and_eq_true_iff.2 ⟨?_, by as_aux_lemma => kernel_rfl⟩
  refine Bool.and_eq_true_iff.2 ⟨?_, by as_aux_lemma => kernel_rfl⟩
  refine Bool.and_eq_true_iff.2 ⟨?_, by as_aux_lemma => kernel_rfl⟩
  refine Bool.and_eq_true_iff.2 ⟨?_, by as_aux_lemma => kernel_rfl⟩
  refine Bool.and_eq_true_iff.2 ⟨?_, by as_aux_lemma => kernel_rfl⟩
  refine Bool.and_eq_true_iff.2 ⟨?_, by as_aux_lemma => kernel_rfl⟩
  refine Bool.and_eq_true_iff.2 ⟨?_, by as_aux_lemma => kernel_rfl⟩
  refine Bool.and_eq_true_iff.2 ⟨?_, by as_aux_lemma => kernel_rfl⟩
  refine Bool.and_eq_true_iff.2 ⟨?_, by as_aux_lemma => kernel_rfl⟩
  refine Bool.and_eq_true_iff.2 ⟨?_, by as_aux_lemma => kernel_rfl⟩
  refine Bool.and_eq_true_iff.2 ⟨?_, by as_aux_lemma => kernel_rfl⟩
  refine Bool.and_eq_true_iff.2 ⟨?_, by as_aux_lemma => kernel_rfl⟩
  refine Bool.and_eq_true_iff.2 ⟨?_, by as_aux_lemma => kernel_rfl⟩
  refine Bool.and_eq_true_iff.2 ⟨?_, by as_aux_lemma => kernel_rfl⟩
  refine Bool.and_eq_true_iff.2 ⟨?_, by as_aux_lemma => kernel_rfl⟩
  refine Bool.and_eq_true_iff.2 ⟨?_, by as_aux_lemma => kernel_rfl⟩
  refine Bool.and_eq_true_iff.2 ⟨?_, by as_aux_lemma => kernel_rfl⟩
  refine Bool.and_eq_true_iff.2 ⟨?_, by as_aux_lemma => kernel_rfl⟩
  as_aux_lemma => kernel_rfl
theorem sameBench_holds : Rows.FnExactSameBenchSaid :=
  OpenClaim.holds_of_wide 4 Try.f4 rfl rfl rfl rfl rfl rfl rfl ⟨rfl, rfl, rfl, rfl, rfl⟩ rfl rfl rfl rfl rfl (by as_aux_lemma => kernel_rfl) Try.func4 closedSameBench
    (of_decide_eq_true (by as_aux_lemma => kernel_rfl)) (by unfold Func.isWrapper; rw [if_neg (by decide +kernel)]; exact ⟨rfl, rfl⟩)
    (fun os started H enc _ => liftedSameBench os started H enc)
#print axioms sameBench_holds
end Go.Proofs.Ytflfjedimcbfeaa
