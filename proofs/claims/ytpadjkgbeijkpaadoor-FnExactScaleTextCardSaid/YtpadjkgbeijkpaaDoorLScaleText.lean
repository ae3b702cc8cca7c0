/- The law FnExactScaleText of the laws package returns true for every scale, valid or not; it reads behind the call as before it. No condition but what the program's own text lays in its package-level variables (tied). -/
import Derived.Test.YtpadjkgbeijkpaaDoorRows
import Derived.Test.YtpadjkgbeijkpaaDoorJw
import Derived.Test.YtpadjkgbeijkpaaDoorDl
import Derived.Test.YtpadjkgbeijkpaaDoorCards
import Derived.Test.YtpadjkgbeijkpaaDoorTie
import Derived.SevenTiedAt
import Derived.ChangeSame
import Derived.ChangeVars
import Derived.JoinedOf
import Derived.LaidLaws
import Derived.LaidHandle
import Derived.Stop.Joined
import Derived.Test.YtpadjkgbeijkpaaDoorRs
import Derived.Test.YtpadjkgbeijkpaaDoorFacts
import Derived.ProofKit
import Derived.Carry
import Derived.Lib.SmallJoins
import Derived.Deep.RegionWith
import Derived.Deep.CutRange
namespace Go.Proofs.YtpadjkgbeijkpaaDoor
open Go.RowKit Go.Sort

theorem RawF.bl {w w' : World} {v : Value} {xs : List (Int × Int)} (h : RawF w v xs) (hg : Bl w w') : RawF w' v xs := by
  rcases h with h | ⟨ad, cap, h1, h3⟩
  · exact .inl h
  · refine .inr ⟨ad, cap, h1, fun k p q hk => ?_⟩
    obtain ⟨c1, c2⟩ := h3 k p q hk
    exact ⟨(Below.cell hg (World.block_lt_of_cell? _ _ c1)).trans c1, (Below.cell hg (World.block_lt_of_cell? _ _ c2)).trans c2⟩
set_option maxRecDepth 20000 in
set_option maxHeartbeats 4000000 in
theorem lawScaleText (a b : Int) (A : Option Addr) (cap : Nat) (xs : List (Int × Int))  (R0 : ByteArray) (w : World) (T : Hid (Pow w)) (hr : RawF w (.slice A xs.length cap) xs) (hn : xs.length ≤ 1048576)
    (hs : ∀ (A : Option Addr) (c : Nat) (w : World), Hid (RdF w A xs) → Calls Tryd.prog 16 #[scl a b A xs.length c] w fun x w' => x = .returned (.string R0) ∧ Gr w w')
    (hi : ∀ (A : Option Addr) (c : Nat) (w : World), Hid (RdF w A xs) → Hid (Pow w) → Calls Tryd.prog 18 #[scl a b A xs.length c] w fun x w' => x = .returned (.string R0) ∧ Bl w w') :
    Calls Tryd.prog 5 #[scl a b A xs.length cap] w fun x w' => x = .returned (.bool true) ∧ Bl w w' := by
  have HS := hid hs; have HI := hid hi; have HR := hid hr
  clear hs hi hr
  go_enter Tryd.func5, Tryd.ntmps5
  go_wp2_with fail
  refine (szSc_yes _ _ _ _ _ _ _ (by omega) (by omega)).mono ?_
  rintro e w1 ⟨rfl, hg1⟩
  obtain ⟨x1_0, hz1, g1⟩ := alloc1 hg1
  obtain ⟨_, _, _⟩ := cells3 x1_0
  have _ := fz x1_0
  have _ := ltb x1_0
  have X1_0 := hid x1_0; clear x1_0
  have G1 := hid (g1)
  clear hg1 g1
  go_wp2_with fail
  refine (toSc_any _ _ _ _ xs _ hn (HR.out.keep G1.out)).mono ?_
  rintro e w2 ⟨g2_, rfl, xb2, _, hg2⟩
  have x2_1 := hg2.keep X1_0.out
  obtain ⟨_, _, _⟩ := cells3 x2_1
  have _ := fz x2_1
  have _ := ltb x2_1
  have _ := ltb xb2
  have X2_1 := hid x2_1; clear x2_1
  have Xb2 := hid xb2; clear xb2
  have G2 := hid (G1.out.trans hg2)
  clear hg2
  go_wp2_with fail
  refine (HS.out _ _ _ (hid (RdF.of_block Xb2.out))).mono ?_
  rintro e w3 ⟨rfl, hg3⟩
  have x3_1 := hg3.keep X2_1.out
  have x3_2 := hg3.keep Xb2.out
  obtain ⟨_, _, _⟩ := cells3 x3_1
  have _ := fz x3_1
  have _ := ltb x3_1
  have _ := ltb x3_2
  have X3_1 := hid x3_1; clear x3_1
  have X3_2 := hid x3_2; clear x3_2
  have G3 := hid (G2.out.trans hg3)
  clear hg3
  go_wp2_with fail
  refine (toSc_any _ _ _ _ xs _ hn (HR.out.keep G3.out)).mono ?_
  rintro e w4 ⟨g4_, rfl, xb4, _, hg4⟩
  have x4_1 := hg4.keep X3_1.out
  have x4_2 := hg4.keep X3_2.out
  obtain ⟨_, _, _⟩ := cells3 x4_1
  have _ := fz x4_1
  have _ := ltb x4_1
  have _ := ltb x4_2
  have _ := ltb xb4
  have X4_1 := hid x4_1; clear x4_1
  have X4_2 := hid x4_2; clear x4_2
  have Xb4 := hid xb4; clear xb4
  have G4 := hid (G3.out.trans hg4)
  clear hg4
  have G4b := hid (G4.out.al (.cells #[.int .i64 a, .int .i64 b, .slice (some ⟨g4_, 0, none⟩) xs.length xs.length] 41))
  have Y4 := hid (alloc1 (w := w4) (A := (.cells #[.int .i64 a, .int .i64 b, .slice (some ⟨g4_, 0, none⟩) xs.length xs.length] 41)) (Gr.refl _)).1
  go_wp2_with fail
  refine (HI.out _ _ _ (hid (RdF.of_block (((Gr.refl _).al _).keep Xb4.out))) (hid (T.out.keep G4b.out))).mono ?_
  rintro e w5 ⟨rfl, hb⟩
  have X5_0 := hid (bl_keep hb Y4.out)
  have X5_1 := hid (bl_keep hb (((Gr.refl w4).al (.cells #[.int .i64 a, .int .i64 b, .slice (some ⟨g4_, 0, none⟩) xs.length xs.length] 41)).keep X4_1.out))
  have X5_3 := hid (bl_keep hb (((Gr.refl w4).al (.cells #[.int .i64 a, .int .i64 b, .slice (some ⟨g4_, 0, none⟩) xs.length xs.length] 41)).keep Xb4.out))
  have B5 := hid (Bl.tr G4b.out.below hb)
  have R5 := hid (RawF.bl (HR.out.keep G4b.out) hb)
  clear hb
  obtain ⟨_, _, _⟩ := cells3 X5_0.out
  have _ := ltb X5_0.out
  obtain ⟨_, _, _⟩ := cells3 X5_1.out
  have _ := ltb X5_1.out
  have _ := ltb X5_3.out
  have G5 := hid (Gr.refl w5)
  have HR := R5
  go_wp2_with fail
  go_region_with (first | (go_at_call 17; refine (toSc_any _ _ _ _ xs _ hn (HR.out.keep (G5.out.trans (Gr.drew _)))).mono ?_; rintro x wb ⟨gb, rfl, xb, _, hgb⟩; have XB := hid xb; have GB := hid ((Gr.drew _).trans hgb); have X60 := hid (GB.out.keep X5_0.out); have X63 := hid (GB.out.keep X5_3.out); obtain ⟨_, _, _⟩ := cells3 X60.out; clear xb hgb) | (go_at_call 19; refine (eqSc_any _ _ _ _ _ _ xs _ (hid (RdF.of_block X63.out)) (hid (RdF.of_block XB.out)) hn).mono ?_; rintro x wd ⟨rfl, hgd⟩; have GD := hid ((G5.out.trans GB.out).trans hgd); clear hgd))
  all_goals
    go_wp2
    go_ret
    exact ⟨rfl, Bl.tr B5.out GD.out.below⟩
set_option maxRecDepth 20000 in
set_option maxHeartbeats 400000 in
theorem lawScaleText_big (a b : Int) (A : Option Addr) (n cap : Nat)  (w : World) (h : 1048576 < n) (h2 : n ≤ 9223372036854775807) :
    Calls Tryd.prog 5 #[scl a b A n cap] w fun e w' => e = .returned (.bool true) ∧ Gr w w' := by
  go_enter Tryd.func5, Tryd.ntmps5
  go_wp2_with fail
  refine (szSc_no _ _ _ _ _ _ _ (by omega) h2 (by omega) (by omega)).mono ?_
  rintro e w1 ⟨rfl, hg1⟩
  obtain ⟨x1_0, hz1, g1⟩ := alloc1 hg1
  obtain ⟨_, _, _⟩ := cells3 x1_0
  have _ := fz x1_0
  have _ := ltb x1_0
  have X1_0 := hid x1_0; clear x1_0
  have G1 := hid (g1)
  clear hg1 g1
  go_wp2
  go_ret
  exact ⟨rfl, G1.out⟩

open Go.ChangeShapes Go.WideShapes Go.ChangeAt Go.Joins
theorem laidOutScaleText : laidOutB Tryd.prog = true := by as_aux_lemma => kernel_rfl
/-- A world in which the variables are laid. -/
noncomputable def laidWScaleText (os : Os) : World :=
  let w0 := World.holding Tryd.prog os ⟨#[], #[], []⟩
  let w1 := { w0 with heap := w0.heap.modify 6 fun
      | .cells _ t frozen => .cells (litCells Rows.laid_math_bits_deBruijn32tab) t frozen
      | o => o }
  let w2 := { w1 with heap := w1.heap.modify 7 fun
      | .cells _ t frozen => .cells (litCells Rows.laid_math_bits_deBruijn64tab) t frozen
      | o => o }
  let w3 := { w2 with heap := w2.heap.modify 3 fun
      | .cells _ t frozen => .cells (litCells Rows.laid_internal_strconv_uint64pow10) t frozen
      | o => o }
  w3
set_option maxRecDepth 100000 in
theorem laidWScaleText_met (os : Os) (args : Array Value) : laidMetH Tryd.prog [("math/bits.deBruijn32tab", Rows.laid_math_bits_deBruijn32tab), ("math/bits.deBruijn64tab", Rows.laid_math_bits_deBruijn64tab), ("internal/strconv.uint64pow10", Rows.laid_internal_strconv_uint64pow10)] ((laidWScaleText os).forCall (fun _ _ => 0) ⟨#[], args, []⟩).memory :=
  laidMetH_of_parts (laidMet_of_run' 9 (by kernel_rfl) (by kernel_rfl)) (by kernel_rfl)
set_option maxRecDepth 100000 in
theorem liftedScaleText (os : Os) (started : os.Started) (H : Type) (enc : TypeId × Value → H) :
    ReturnsInHanded {} Tryd.checked os 5 .any (fun w args => (Rows.fnExactScaleTextSpec.pre enc Tryd.prog Tryd.f5 [] false w args ∧ laidMetH Tryd.prog [("math/bits.deBruijn32tab", Rows.laid_math_bits_deBruijn32tab), ("math/bits.deBruijn64tab", Rows.laid_math_bits_deBruijn64tab), ("internal/strconv.uint64pow10", Rows.laid_internal_strconv_uint64pow10)] w) ∧ sizedMet enc Tryd.prog Tryd.f5 (OpenSpec.ofChange Rows.fnExactScaleTextSpec) false w args)
      (Rows.fnExactScaleTextSpec.post enc Tryd.prog Tryd.f5 false true false false) := by
  refine returnsInHanded_of_change_and (C := Tryd.checked) (X := fun w _ => laidMetH Tryd.prog [("math/bits.deBruijn32tab", Rows.laid_math_bits_deBruijn32tab), ("math/bits.deBruijn64tab", Rows.laid_math_bits_deBruijn64tab), ("internal/strconv.uint64pow10", Rows.laid_internal_strconv_uint64pow10)] w) (fun _ _ _ hh h => h.of_heap hh) ownNone started (by kernel_rfl) Tryd.func5
    (ChangeSpec.witness_at (enc := enc) (C := Tryd.checked) (os := os) (X := fun w _ => laidMetH Tryd.prog [("math/bits.deBruijn32tab", Rows.laid_math_bits_deBruijn32tab), ("math/bits.deBruijn64tab", Rows.laid_math_bits_deBruijn64tab), ("internal/strconv.uint64pow10", Rows.laid_internal_strconv_uint64pow10)] w) false (laidWScaleText os) #[.agg #[.int .i64 0, .int .i64 0, .slice none 0 0]] 8 rfl (by kernel_rfl) (by kernel_rfl) (by kernel_rfl) (by kernel_rfl) (by kernel_rfl) (laidWScaleText_met os _)) ?_
  intro W base args ds gs before hval0 hW _ _ hL _
  have hE := hid (Pow_of_laid (by simp) hL)
  have hval : ∀ (j : Nat) t v, Tryd.f5.params[j]? = some t → args[j]? = some v → Value.okWide Tryd.prog W .any base t v := hval0
  have hW' := hW
  obtain ⟨p, q, hA0, hV, rfl, _, _⟩ := hW
  have hA : DataW.TrodAll enc Tryd.prog W 0 (fun _ => true) true Tryd.f5.params.toList args.toList ds p := hA0
  rw [Tryd.params5] at hA hval
  obtain ⟨v0, d0, rfl, rfl, h0⟩ := trodAll_one hA
  obtain ⟨rfl, rfl⟩ := trodVars_none hV
  clear hA0 hval0
  simp only [List.append_nil] at hW'
  have hlt : ∀ x ∈ p, x.block < W.heap.size := fun x hx => by simpa using hW'.lt x (by simpa using hx)
  have done : ∀ (e : Ending) (W' : World), e = .returned (.bool true) ∧ Bl W W' → ∃ v, e = .returned v ∧ Rows.fnExactScaleTextSpec.post enc Tryd.prog Tryd.f5 false true false false W #[v0] v W' := fun e W' ⟨he, hg⟩ => by
    subst he
    exact ⟨_, rfl, _, _, _, [], p, [], hW', trodAll_mk1 (shut_bool Tryd.underlying4 _), trodAll_mk1 (Below.trod laidOutScaleText (by kernel_rfl) (of_decide_eq_true (by kernel_rfl)) h0 hg fun x hx => hlt x (by simpa using hx)), rfl, Below.frame hg _, fun h => by cases h⟩
  obtain ⟨a, b, A, n, cap, rfl, hmax, xs, rfl, hraw⟩ := open_scale (hval 0 36 v0 rfl rfl) h0
  by_cases hn : xs.length ≤ 1048576
  · obtain ⟨R0, hs, hi⟩ := bothScaleText a b xs hn
    exact (lawScaleText a b A cap xs R0 W hE hraw hn hs hi).mono done
  · exact (lawScaleText_big a b A xs.length cap W (by omega) hmax).mono fun e W' h => done e W' ⟨h.1, h.2.below⟩

set_option maxHeartbeats 2000000 in
theorem closedScaleText : joinedFacts Tryd.pinned.checked.prog 5 Tryd.f5 Rows.fnExactScaleTextSpec Rows.fnExactScaleTextRow = true := by
  unfold joinedFacts
  refine Bool.and_eq_true_iff.2 ⟨?_, by as_aux_lemma => kernel_rfl⟩
  refine Bool.and_eq_true_iff.2 ⟨?_, by as_aux_lemma => kernel_rfl⟩
  refine Bool.and_eq_true_iff.2 ⟨?_, by as_aux_lemma => kernel_rfl⟩
  refine Bool.and_eq_true_iff.2 ⟨?_, by as_aux_lemma => kernel_rfl⟩
  refine Bool.and_eq_true_iff.2 ⟨?_, by rw [fact_make]; rfl⟩
  refine Bool.and_eq_true_iff.2 ⟨?_, by rw [fact_final]; rfl⟩
  refine Bool.and_eq_true_iff.2 ⟨?_, fact_enters⟩
  refine Bool.and_eq_true_iff.2 ⟨?_, by as_aux_lemma => kernel_rfl⟩
  refine Bool.and_eq_true_iff.2 ⟨?_, by as_aux_lemma => kernel_rfl⟩
  refine Bool.and_eq_true_iff.2 ⟨?_, by as_aux_lemma => kernel_rfl⟩
  refine Bool.and_eq_true_iff.2 ⟨?_, by as_aux_lemma => kernel_rfl⟩
  refine Bool.and_eq_true_iff.2 ⟨?_, by as_aux_lemma => kernel_rfl⟩
  refine Bool.and_eq_true_iff.2 ⟨?_, by as_aux_lemma => kernel_rfl⟩
  refine Bool.and_eq_true_iff.2 ⟨?_, by as_aux_lemma => kernel_rfl⟩
  refine Bool.and_eq_true_iff.2 ⟨?_, by as_aux_lemma => kernel_rfl⟩
  refine Bool.and_eq_true_iff.2 ⟨?_, by as_aux_lemma => kernel_rfl⟩
  refine Bool.and_eq_true_iff.2 ⟨?_, by as_aux_lemma => kernel_rfl⟩
  refine Bool.and_eq_true_iff.2 ⟨?_, by as_aux_lemma => kernel_rfl⟩
  refine Bool.and_eq_true_iff.2 ⟨?_, by as_aux_lemma => kernel_rfl⟩
  refine Bool.and_eq_true_iff.2 ⟨?_, by as_aux_lemma => kernel_rfl⟩
  refine Bool.and_eq_true_iff.2 ⟨?_, by as_aux_lemma => kernel_rfl⟩
  refine Bool.and_eq_true_iff.2 ⟨?_, by as_aux_lemma => kernel_rfl⟩
  refine Bool.and_eq_true_iff.2 ⟨?_, by as_aux_lemma => kernel_rfl⟩
  refine Bool.and_eq_true_iff.2 ⟨?_, by as_aux_lemma => kernel_rfl⟩
  refine Bool.and_eq_true_iff.2 ⟨?_, by as_aux_lemma => kernel_rfl⟩
  refine Bool.and_eq_true_iff.2 ⟨?_, by as_aux_lemma => kernel_rfl⟩
  refine Bool.and_eq_true_iff.2 ⟨?_, by as_aux_lemma => kernel_rfl⟩
  refine Bool.and_eq_true_iff.2 ⟨?_, by as_aux_lemma => kernel_rfl⟩
  refine Bool.and_eq_true_iff.2 ⟨?_, by as_aux_lemma => kernel_rfl⟩
  refine Bool.and_eq_true_iff.2 ⟨?_, by as_aux_lemma => kernel_rfl⟩
  as_aux_lemma => kernel_rfl
theorem scaleText_holds : Rows.FnExactScaleTextSaid :=
  OpenClaim.holds_of_wide 5 Tryd.f5 rfl rfl rfl rfl rfl rfl rfl ⟨rfl, rfl, rfl, rfl, rfl⟩ rfl rfl rfl rfl rfl (by as_aux_lemma => kernel_rfl) Tryd.func5 closedScaleText
    (of_decide_eq_true (by as_aux_lemma => kernel_rfl)) (by unfold Func.isWrapper; rw [if_neg (by decide +kernel)]; exact ⟨rfl, rfl⟩)
    (fun os started H enc _ => liftedScaleText os started H enc)
theorem scaleText_card : Rows.FnExactScaleTextCardSaid :=
  Claim7.holds_tied_plain_at .later [] [.data, .data, .data] true Rows.fnExactScaleTextCard.stood.harness true
    scaleText_holds (fun _ h => by cases h) (by kernel_rfl) (fun _ h => by cases h) fnExactScaleText_row_tie rfl ⟨rfl, rfl⟩ (by kernel_rfl) rfl
    (fun f fn hf hfn => by
      obtain rfl : f = 5 := Option.some.inj ((show Tryd.prog.funcNamed "loop.example/g01254/laws.FnExactScaleText" = some 5 by kernel_rfl).symm.trans hf) |>.symm
      obtain rfl : fn = Tryd.f5 := (Option.some.inj (Tryd.func5.symm.trans hfn)).symm
      exact ⟨by kernel_rfl, fun j t ht => by
        rw [Tryd.params5] at ht
        have hm : t = 36 := by
          rcases j with _ | j
          · simpa using ht.symm
          · simp at ht
        subst hm
        exact (show Tryd.prog.wantsStandIn 36 = false by kernel_rfl)⟩)
    (by kernel_rfl)
end Go.Proofs.YtpadjkgbeijkpaaDoor
