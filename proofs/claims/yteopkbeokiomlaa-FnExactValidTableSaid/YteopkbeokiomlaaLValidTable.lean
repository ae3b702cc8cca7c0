/- The law FnExactValidTable of the laws package returns true for every table, valid or not; it reads behind the call as before it. No condition. -/
import Derived.Test.YteopkbeokiomlaaRows
import Derived.Test.YteopkbeokiomlaaOi
import Derived.Test.YteopkbeokiomlaaOb
import Derived.Test.YteopkbeokiomlaaRo
import Derived.Test.YteopkbeokiomlaaFacts
import Derived.ProofKit
import Derived.Carry
import Derived.Deep.RegionWith
import Derived.Lib.SmallJoins
namespace Go.Proofs.Yteopkbeokiomlaa
open Go.RowKit Go.Sort

set_option maxRecDepth 20000 in
set_option maxHeartbeats 2000000 in
theorem lawValidTable (n : Int) (A : Option Addr) (cap : Nat) (b : Bool) (p q : Int) (xs : List Obv) (R0 : Bool) (w : World) (hr : RawO w (.slice A xs.length cap) xs) (hn : xs.length ≤ 1048576)
    (hs : ∀ (g c : Nat) (w : World), Hid (RdO w (some ⟨g, 0, none⟩) xs) → Calls Try.prog 59 #[tbl n (some ⟨g, 0, none⟩) xs.length c b p q] w fun x w' => x = .returned (.bool R0) ∧ Gr w w')
    (hi : ∀ (g c : Nat) (w : World), Hid (RdO w (some ⟨g, 0, none⟩) xs) → Calls Try.prog 61 #[tbl n (some ⟨g, 0, none⟩) xs.length c b p q] w fun x w' => x = .returned (.bool R0) ∧ Gr w w') :
    Calls Try.prog 12 #[tbl n A xs.length cap b p q] w fun x w' => x = .returned (.bool true) ∧ Gr w w' := by
  have HS := hid hs; have HI := hid hi; have HR := hid hr
  clear hs hi hr
  go_enter Try.func12, Try.ntmps12
  go_wp2_with fail
  refine (szTb_yes _ _ _ _ _ _ _ _ _ (by omega) (by omega)).mono ?_
  rintro e w1 ⟨rfl, hg1⟩
  obtain ⟨x1_0, hz1, g1⟩ := alloc1 hg1
  obtain ⟨_, _, _, _, _⟩ := cells5 x1_0
  have _ := fz x1_0
  have _ := ltb x1_0
  have X1_0 := hid x1_0; clear x1_0
  have G1 := hid (g1)
  clear hg1 g1
  have BX1 := hid X1_0.out
  go_wp2_with fail
  refine (toTb_any _ _ _ _ _ _ xs _ hn (HR.out.keep G1.out)).mono ?_
  rintro x w2 ⟨g2, rfl, x2, _, hg2⟩
  have Y2 := hid x2; have B2 := hid (hg2.keep BX1.out); have G2 := hid (G1.out.trans hg2); clear x2 hg2
  go_wp2_with fail
  refine (HS.out _ _ _ (hid (RdO.of_block Y2.out))).mono ?_
  rintro x w3 ⟨rfl, hg3⟩
  have B3 := hid (hg3.keep B2.out); have G3 := hid (G2.out.trans hg3); clear hg3 Y2 B2 BX1
  obtain ⟨_, _, _, _, _⟩ := cells5 B3.out
  go_wp2_with fail
  refine (toTb_any _ _ _ _ _ _ xs _ hn (HR.out.keep G3.out)).mono ?_
  rintro x w4 ⟨g4, rfl, x4, _, hg4⟩
  have X4 := hid x4; have B4 := hid (hg4.keep B3.out); have G4 := hid (G3.out.trans hg4); clear x4 hg4 B3
  go_wp2_with fail
  refine (HI.out _ _ _ (hid (RdO.of_block (((Gr.refl _).al _).keep X4.out)))).mono ?_
  rintro x w5 ⟨rfl, hg5⟩
  obtain ⟨lx5, _, g5⟩ := alloc1 hg5
  have LX5 := hid lx5; have X5 := hid (g5.keep X4.out); have B5 := hid (g5.keep B4.out); have G5 := hid (G4.out.trans g5); clear hg5 lx5 g5 X4 B4
  obtain ⟨_, _, _, _, _⟩ := cells5 B5.out
  obtain ⟨_, _, _, _, _⟩ := cells5 LX5.out
  cases R0
  all_goals
    go_wp2_with fail
    go_region_with (first | (go_at_call 60; refine (toTb_any _ _ _ _ _ _ xs _ hn (HR.out.keep (G5.out.trans (Gr.drew _)))).mono ?_; rintro x wb ⟨gb, rfl, xb, _, hgb⟩; have XB := hid xb; have GB := hid ((Gr.drew _).trans hgb); have XA := hid (GB.out.keep X5.out); have LA := hid (GB.out.keep LX5.out); obtain ⟨_, _, _, _, _⟩ := cells5 LA.out; clear xb hgb) | (go_at_call 52; refine (eqTb_any _ _ _ _ _ _ _ _ xs _ (hid (RdO.of_block XA.out)) (hid (RdO.of_block XB.out)) hn).mono ?_; rintro x wd ⟨rfl, hgd⟩; have GD := hid ((G5.out.trans GB.out).trans hgd); clear hgd))
    all_goals
      go_wp2
      go_ret
      exact ⟨rfl, GD.out⟩
set_option maxRecDepth 20000 in
set_option maxHeartbeats 400000 in
theorem lawValidTable_big (n : Int) (A : Option Addr) (m cap : Nat) (b : Bool) (p q : Int) (w : World) (h : 1048576 < m) (h2 : m ≤ 9223372036854775807) :
    Calls Try.prog 12 #[tbl n A m cap b p q] w fun e w' => e = .returned (.bool true) ∧ Gr w w' := by
  go_enter Try.func12, Try.ntmps12
  go_wp2_with fail
  refine (szTb_no _ _ _ _ _ _ _ _ _ (by omega) h2 (by omega) (by omega)).mono ?_
  rintro e w1 ⟨rfl, hg1⟩
  obtain ⟨x1_0, hz1, g1⟩ := alloc1 hg1
  obtain ⟨_, _, _, _, _⟩ := cells5 x1_0
  have _ := fz x1_0
  have _ := ltb x1_0
  have X1_0 := hid x1_0; clear x1_0
  have G1 := hid (g1)
  clear hg1 g1
  go_wp2
  go_ret
  exact ⟨rfl, G1.out⟩

open Go.ChangeShapes Go.WideShapes Go.ChangeAt Go.Joins
theorem laidOutValidTable : laidOutB Try.prog = true := by as_aux_lemma => kernel_rfl
set_option maxRecDepth 100000 in
theorem liftedValidTable (os : Os) (started : os.Started) (H : Type) (enc : TypeId × Value → H) :
    ReturnsInHanded {} Try.checked os 12 .any (Rows.fnExactValidTableSpec.pre6 enc Try.prog Try.f12 Rows.fnExactValidTableRow.domain false) (Rows.fnExactValidTableSpec.post enc Try.prog Try.f12 false true false false) := by
  refine returnsInHanded_of_change (C := Try.checked) ownNone started (by kernel_rfl) Try.func12
    (ChangeSpec.witness6 (enc := enc) (C := Try.checked) false ⟨#[], #[.agg #[.int .i64 0, .slice none 0 0, .bool false, .int .i64 0, .int .i64 0]], []⟩ 8 (by kernel_rfl) (by kernel_rfl) (by kernel_rfl) (by kernel_rfl)) ?_
  intro W base args ds gs before hval0 hW _ _
  have hval : ∀ (j : Nat) t v, Try.f12.params[j]? = some t → args[j]? = some v → Value.okWide Try.prog W .any base t v := hval0
  have hW' := hW
  obtain ⟨p, q, hA0, hV, rfl, _, _⟩ := hW
  have hA : DataW.TrodAll enc Try.prog W 0 (fun _ => true) true Try.f12.params.toList args.toList ds p := hA0
  rw [Try.params12] at hA hval
  obtain ⟨v0, d0, rfl, rfl, h0⟩ := trodAll_one hA
  obtain ⟨rfl, rfl⟩ := trodVars_none hV
  clear hA0 hval0
  simp only [List.append_nil] at hW'
  have hlt : ∀ x ∈ p, x.block < W.heap.size := fun x hx => by simpa using hW'.lt x hx
  have done : ∀ (e : Ending) (W' : World), e = .returned (.bool true) ∧ Gr W W' → ∃ v, e = .returned v ∧ Rows.fnExactValidTableSpec.post enc Try.prog Try.f12 false true false false W #[v0] v W' := fun e W' ⟨he, hg⟩ => by
    subst he
    exact ⟨_, rfl, _, _, _, [], p, [], hW', trodAll_mk1 (shut_bool Try.underlying4 _), trodAll_mk1 (Below.trod laidOutValidTable (by kernel_rfl) (of_decide_eq_true (by kernel_rfl)) h0 hg.below hlt), rfl, hg.below.frame _, fun h => by cases h⟩
  obtain ⟨n, A, m, cap, b, p', q', rfl, hmax, xs, rfl, hraw, hw⟩ := open_table (hval 0 93 v0 rfl rfl) h0
  by_cases hn : xs.length ≤ 1048576
  · obtain ⟨R0, hs, hi⟩ := bothValidTable n b p' q' xs hn hw
    exact (lawValidTable n A cap b p' q' xs R0 W hraw hn hs hi).mono done
  · exact (lawValidTable_big n A xs.length cap b p' q' W (by omega) hmax).mono done

set_option maxHeartbeats 2000000 in
theorem closedValidTable : joinedFacts Try.pinned.checked.prog 12 Try.f12 Rows.fnExactValidTableSpec Rows.fnExactValidTableRow = true := by
  unfold joinedFacts
  refine Bool.and_eq_true_iff.2 ⟨?_, by as_aux_lemma => kernel_rfl⟩
  refine Bool.and_eq_true_iff.2 ⟨?_, by as_aux_lemma => kernel_rfl⟩
  refine Bool.and_eq_true_iff.2 ⟨?_, by as_aux_lemma => kernel_rfl⟩
  refine Bool.and_eq_true_iff.2 ⟨?_, by as_aux_lemma => kernel_rfl⟩
  refine Bool.and_eq_true_iff.2 ⟨?_, by rw [fact_make]; rfl⟩
  refine Bool.and_eq_true_iff.2 ⟨?_, by rw [fact_final]; rfl⟩
  refine Bool.and_eq_true_iff.2 ⟨?_, fact_enters⟩
  refine Bool.and_eq_true_iff.2 ⟨?_, by as_aux_lemma => kernel_rfl⟩
  refine Bool.and_eq_true_iff.2 ⟨?_, by as_aux_lemma => kernel_rfl⟩
  refine Bool.and_eq_true_iff.2 ⟨?_, by as_aux_lemma => kernel_rfl⟩
  refine Bool.and_eq_true_iff.2 ⟨?_, by as_aux_lemma => kernel_rfl⟩
  refine Bool.and_eq_true_iff.2 ⟨?_, by as_aux_lemma => kernel_rfl⟩
  refine Bool.and_eq_true_iff.2 ⟨?_, by as_aux_lemma => kernel_rfl⟩
  refine Bool.and_eq_true_iff.2 ⟨?_, by as_aux_lemma => kernel_rfl⟩
  refine Bool.and_eq_true_iff.2 ⟨?_, by as_aux_lemma => kernel_rfl⟩
  refine Bool.and_eq_true_iff.2 ⟨?_, by as_aux_lemma => kernel_rfl⟩
  refine Bool.and_eq_true_iff.2 ⟨?_, by as_aux_lemma => kernel_rfl⟩
  refine Bool.and_eq_true_iff.2 ⟨?_, by as_aux_lemma => kernel_rfl⟩
  refine Bool.and_eq_true_iff.2 ⟨?_, by as_aux_lemma => kernel_rfl⟩
  refine Bool.and_eq_true_iff.2 ⟨?_, by as_aux_lemma => kernel_rfl⟩
  refine Bool.and_eq_true_iff.2 ⟨?_, by as_aux_lemma => kernel_rfl⟩
  refine Bool.and_eq_true_iff.2 ⟨?_, by as_aux_lemma => kernel_rfl⟩
  refine Bool.and_eq_true_iff.2 ⟨?_, by as_aux_lemma => kernel_rfl⟩
  refine Bool.and_eq_true_iff.2 ⟨?_, by as_aux_lemma => kernel_rfl⟩
  refine Bool.and_eq_true_iff.2 ⟨?_, by as_aux_lemma => kernel_rfl⟩
  refine Bool.and_eq_true_iff.2 ⟨?_, by as_aux_lemma => kernel_rfl⟩
  refine Bool.and_eq_true_iff.2 ⟨?_, by as_aux_lemma => kernel_rfl⟩
  refine Bool.and_eq_true_iff.2 ⟨?_, by as_aux_lemma => kernel_rfl⟩
  refine Bool.and_eq_true_iff.2 ⟨?_, by as_aux_lemma => kernel_rfl⟩
  refine Bool.and_eq_true_iff.2 ⟨?_, by as_aux_lemma => kernel_rfl⟩
  as_aux_lemma => kernel_rfl
theorem validTable_holds : Rows.FnExactValidTableSaid :=
  OpenClaim.holds_of_wide 12 Try.f12 rfl rfl rfl rfl rfl rfl rfl ⟨rfl, rfl, rfl, rfl, rfl⟩ rfl rfl rfl rfl rfl (by as_aux_lemma => kernel_rfl) Try.func12 closedValidTable
    (of_decide_eq_true (by as_aux_lemma => kernel_rfl)) (by unfold Func.isWrapper; rw [if_neg (by decide +kernel)]; exact ⟨rfl, rfl⟩)
    (fun os started H enc _ => liftedValidTable os started H enc)
#print axioms validTable_holds
end Go.Proofs.Yteopkbeokiomlaa
