/- The law FnExactTableText of the laws package returns true for every table, valid or not; it reads behind the call as before it. No condition but what the program's own text lays in its package-level variables (tied). -/
import Derived.Test.YtkeflpcokcfcjaaDoorRows
import Derived.Test.YtkeflpcokcfcjaaDoorJt
import Derived.Test.YtkeflpcokcfcjaaDoorDl
import Derived.Test.YtkeflpcokcfcjaaDoorCards
import Derived.Test.YtkeflpcokcfcjaaDoorTie
import Derived.SevenTiedAt
import Derived.ChangeSame
import Derived.ChangeVars
import Derived.JoinedOf
import Derived.LaidLaws
import Derived.LaidHandle
import Derived.Stop.Joined
import Derived.Test.YtkeflpcokcfcjaaDoorRo
import Derived.Test.YtkeflpcokcfcjaaDoorFacts
import Derived.ProofKit
import Derived.Carry
import Derived.Lib.SmallJoins
import Derived.Deep.RegionWith
import Derived.Deep.CutRange
namespace Go.Proofs.YtkeflpcokcfcjaaDoor
open Go.RowKit Go.Sort

theorem RawO.bl {w w' : World} {v : Value} {xs : List Obv} (h : RawO w v xs) (hg : Bl w w') : RawO w' v xs := by
  rcases h with h | ⟨ad, cap, h1, h3⟩
  · exact .inl h
  · exact .inr ⟨ad, cap, h1, fun k x hk => (h3 k x hk).bl hg⟩
set_option maxRecDepth 20000 in
set_option maxHeartbeats 4000000 in
theorem lawTableText (n : Int) (A : Option Addr) (cap : Nat) (b : Bool) (p q : Int) (xs : List Obv) (R0 : ByteArray) (w : World) (T : Hid (Pow w)) (hr : RawO w (.slice A xs.length cap) xs) (hn : xs.length ≤ 1048576)
    (hs : ∀ (g c : Nat) (w : World), Hid (RdO w (some ⟨g, 0, none⟩) xs) → Calls Tryd.prog 7 #[tbl n (some ⟨g, 0, none⟩) xs.length c b p q] w fun x w' => x = .returned (.string R0) ∧ Gr w w')
    (hi : ∀ (g c : Nat) (w : World), Hid (RdO w (some ⟨g, 0, none⟩) xs) → Hid (Pow w) → Calls Tryd.prog 9 #[tbl n (some ⟨g, 0, none⟩) xs.length c b p q] w fun x w' => x = .returned (.string R0) ∧ Bl w w') :
    Calls Tryd.prog 3 #[tbl n A xs.length cap b p q] w fun x w' => x = .returned (.bool true) ∧ Bl w w' := by
  have HS := hid hs; have HI := hid hi; have HR := hid hr
  clear hs hi hr
  go_enter Tryd.func3, Tryd.ntmps3
  go_wp2_with fail
  refine (szTb_yes _ _ _ _ _ _ _ _ _ (by omega) (by omega)).mono ?_
  rintro e w1 ⟨rfl, hg1⟩
  obtain ⟨x1_0, hz1, g1⟩ := alloc1 hg1
  obtain ⟨_, _, _, _, _⟩ := cells5 x1_0
  have _ := fz x1_0
  have _ := ltb x1_0
  have X1_0 := hid x1_0; clear x1_0
  have G1 := hid (g1)
  clear hg1 g1
  have BX1 := hid X1_0.out
  go_wp2_with fail
  refine (toTb_any _ _ _ _ _ _ xs _ hn (HR.out.keep G1.out)).mono ?_
  rintro x w2 ⟨g2, rfl, x2, _, hg2⟩
  have Y2 := hid x2; have B2 := hid (hg2.keep BX1.out); have G2 := hid (G1.out.trans hg2); clear x2 hg2
  go_wp2_with fail
  refine (HS.out _ _ _ (hid (RdO.of_block Y2.out))).mono ?_
  rintro x w3 ⟨rfl, hg3⟩
  have B3 := hid (hg3.keep B2.out); have G3 := hid (G2.out.trans hg3); clear hg3 Y2 B2 BX1
  obtain ⟨_, _, _, _, _⟩ := cells5 B3.out
  go_wp2_with fail
  refine (toTb_any _ _ _ _ _ _ xs _ hn (HR.out.keep G3.out)).mono ?_
  rintro x w4 ⟨g4, rfl, x4, _, hg4⟩
  have X4 := hid x4; have B4 := hid (hg4.keep B3.out); have G4 := hid (G3.out.trans hg4); clear x4 hg4 B3
  go_wp2_with fail
  have G4b := hid (G4.out.al (.cells #[.int .i64 n, .slice (some ⟨g4, 0, none⟩) xs.length xs.length, .bool b, .int .i64 p, .int .i64 q] 32))
  have Y4 := hid (alloc1 (w := w4) (A := (.cells #[.int .i64 n, .slice (some ⟨g4, 0, none⟩) xs.length xs.length, .bool b, .int .i64 p, .int .i64 q] 32)) (Gr.refl _)).1
  refine (HI.out _ _ _ (hid (RdO.of_block (((Gr.refl _).al _).keep X4.out))) (hid (T.out.keep G4b.out))).mono ?_
  rintro x w5 ⟨rfl, hb⟩
  have LX5 := hid (bl_keep hb Y4.out)
  have X5 := hid (bl_keep hb (((Gr.refl w4).al (.cells #[.int .i64 n, .slice (some ⟨g4, 0, none⟩) xs.length xs.length, .bool b, .int .i64 p, .int .i64 q] 32)).keep X4.out))
  have B5 := hid (bl_keep hb (((Gr.refl w4).al (.cells #[.int .i64 n, .slice (some ⟨g4, 0, none⟩) xs.length xs.length, .bool b, .int .i64 p, .int .i64 q] 32)).keep B4.out))
  have E5 := hid (Bl.tr G4b.out.below hb)
  have R5 := hid (RawO.bl (HR.out.keep G4b.out) hb)
  clear hb X4 B4
  obtain ⟨_, _, _, _, _⟩ := cells5 B5.out
  obtain ⟨_, _, _, _, _⟩ := cells5 LX5.out
  have _ := ltb LX5.out
  have _ := ltb B5.out
  have _ := ltb X5.out
  have G5 := hid (Gr.refl w5)
  have HR := R5
  go_wp2_with fail
  go_region_with (first | (go_at_call 8; refine (toTb_any _ _ _ _ _ _ xs _ hn (HR.out.keep (G5.out.trans (Gr.drew _)))).mono ?_; rintro x wb ⟨gb, rfl, xb, _, hgb⟩; have XB := hid xb; have GB := hid ((Gr.drew _).trans hgb); have XA := hid (GB.out.keep X5.out); have LA := hid (GB.out.keep LX5.out); obtain ⟨_, _, _, _, _⟩ := cells5 LA.out; clear xb hgb) | (go_at_call 10; refine (eqTb_any _ _ _ _ _ _ _ _ xs _ (hid (RdO.of_block XA.out)) (hid (RdO.of_block XB.out)) hn).mono ?_; rintro x wd ⟨rfl, hgd⟩; have GD := hid ((G5.out.trans GB.out).trans hgd); clear hgd))
  all_goals
    go_wp2
    go_ret
    exact ⟨rfl, Bl.tr E5.out GD.out.below⟩
set_option maxRecDepth 20000 in
set_option maxHeartbeats 400000 in
theorem lawTableText_big (n : Int) (A : Option Addr) (m cap : Nat) (b : Bool) (p q : Int) (w : World) (h : 1048576 < m) (h2 : m ≤ 9223372036854775807) :
    Calls Tryd.prog 3 #[tbl n A m cap b p q] w fun e w' => e = .returned (.bool true) ∧ Gr w w' := by
  go_enter Tryd.func3, Tryd.ntmps3
  go_wp2_with fail
  refine (szTb_no _ _ _ _ _ _ _ _ _ (by omega) h2 (by omega) (by omega)).mono ?_
  rintro e w1 ⟨rfl, hg1⟩
  obtain ⟨x1_0, hz1, g1⟩ := alloc1 hg1
  obtain ⟨_, _, _, _, _⟩ := cells5 x1_0
  have _ := fz x1_0
  have _ := ltb x1_0
  have X1_0 := hid x1_0; clear x1_0
  have G1 := hid (g1)
  clear hg1 g1
  go_wp2
  go_ret
  exact ⟨rfl, G1.out⟩

open Go.ChangeShapes Go.WideShapes Go.ChangeAt Go.Joins
theorem laidOutTableText : laidOutB Tryd.prog = true := by as_aux_lemma => kernel_rfl
/-- A world in which the variables are laid. -/
noncomputable def laidWTableText (os : Os) : World :=
  let w0 := World.holding Tryd.prog os ⟨#[], #[], []⟩
  let w1 := { w0 with heap := w0.heap.modify 6 fun
      | .cells _ t frozen => .cells (litCells Rows.laid_math_bits_deBruijn32tab) t frozen
      | o => o }
  let w2 := { w1 with heap := w1.heap.modify 7 fun
      | .cells _ t frozen => .cells (litCells Rows.laid_math_bits_deBruijn64tab) t frozen
      | o => o }
  let w3 := { w2 with heap := w2.heap.modify 2 fun
      | .cells _ t frozen => .cells (litCells Rows.laid_internal_strconv_uint64pow10) t frozen
      | o => o }
  w3
set_option maxRecDepth 100000 in
theorem laidWTableText_met (os : Os) (args : Array Value) : laidMetH Tryd.prog [("math/bits.deBruijn32tab", Rows.laid_math_bits_deBruijn32tab), ("math/bits.deBruijn64tab", Rows.laid_math_bits_deBruijn64tab), ("internal/strconv.uint64pow10", Rows.laid_internal_strconv_uint64pow10)] ((laidWTableText os).forCall (fun _ _ => 0) ⟨#[], args, []⟩).memory :=
  laidMetH_of_parts (laidMet_of_run' 9 (by kernel_rfl) (by kernel_rfl)) (by kernel_rfl)
set_option maxRecDepth 100000 in
theorem liftedTableText (os : Os) (started : os.Started) (H : Type) (enc : TypeId × Value → H) :
    ReturnsInHanded {} Tryd.checked os 3 .any (fun w args => (Rows.fnExactTableTextSpec.pre enc Tryd.prog Tryd.f3 [] false w args ∧ laidMetH Tryd.prog [("math/bits.deBruijn32tab", Rows.laid_math_bits_deBruijn32tab), ("math/bits.deBruijn64tab", Rows.laid_math_bits_deBruijn64tab), ("internal/strconv.uint64pow10", Rows.laid_internal_strconv_uint64pow10)] w) ∧ sizedMet enc Tryd.prog Tryd.f3 (OpenSpec.ofChange Rows.fnExactTableTextSpec) false w args)
      (Rows.fnExactTableTextSpec.post enc Tryd.prog Tryd.f3 false true false false) := by
  refine returnsInHanded_of_change_and (C := Tryd.checked) (X := fun w _ => laidMetH Tryd.prog [("math/bits.deBruijn32tab", Rows.laid_math_bits_deBruijn32tab), ("math/bits.deBruijn64tab", Rows.laid_math_bits_deBruijn64tab), ("internal/strconv.uint64pow10", Rows.laid_internal_strconv_uint64pow10)] w) (fun _ _ _ hh h => h.of_heap hh) ownNone started (by kernel_rfl) Tryd.func3
    (ChangeSpec.witness_at (enc := enc) (C := Tryd.checked) (os := os) (X := fun w _ => laidMetH Tryd.prog [("math/bits.deBruijn32tab", Rows.laid_math_bits_deBruijn32tab), ("math/bits.deBruijn64tab", Rows.laid_math_bits_deBruijn64tab), ("internal/strconv.uint64pow10", Rows.laid_internal_strconv_uint64pow10)] w) false (laidWTableText os) #[.agg #[.int .i64 0, .slice none 0 0, .bool false, .int .i64 0, .int .i64 0]] 8 rfl (by kernel_rfl) (by kernel_rfl) (by kernel_rfl) (by kernel_rfl) (by kernel_rfl) (laidWTableText_met os _)) ?_
  intro W base args ds gs before hval0 hW _ _ hL _
  have hE := hid (Pow_of_laid (by simp) hL)
  have hval : ∀ (j : Nat) t v, Tryd.f3.params[j]? = some t → args[j]? = some v → Value.okWide Tryd.prog W .any base t v := hval0
  have hW' := hW
  obtain ⟨p, q, hA0, hV, rfl, _, _⟩ := hW
  have hA : DataW.TrodAll enc Tryd.prog W 0 (fun _ => true) true Tryd.f3.params.toList args.toList ds p := hA0
  rw [Tryd.params3] at hA hval
  obtain ⟨v0, d0, rfl, rfl, h0⟩ := trodAll_one hA
  obtain ⟨rfl, rfl⟩ := trodVars_none hV
  clear hA0 hval0
  simp only [List.append_nil] at hW'
  have hlt : ∀ x ∈ p, x.block < W.heap.size := fun x hx => by simpa using hW'.lt x (by simpa using hx)
  have done : ∀ (e : Ending) (W' : World), e = .returned (.bool true) ∧ Bl W W' → ∃ v, e = .returned v ∧ Rows.fnExactTableTextSpec.post enc Tryd.prog Tryd.f3 false true false false W #[v0] v W' := fun e W' ⟨he, hg⟩ => by
    subst he
    exact ⟨_, rfl, _, _, _, [], p, [], hW', trodAll_mk1 (shut_bool Tryd.underlying4 _), trodAll_mk1 (Below.trod laidOutTableText (by kernel_rfl) (of_decide_eq_true (by kernel_rfl)) h0 hg fun x hx => hlt x (by simpa using hx)), rfl, Below.frame hg _, fun h => by cases h⟩
  obtain ⟨n, A, m, cap, b, p', q', rfl, hmax, xs, rfl, hraw, hw⟩ := open_table (hval 0 26 v0 rfl rfl) h0
  by_cases hn : xs.length ≤ 1048576
  · obtain ⟨R0, hs, hi⟩ := bothTableText n b p' q' xs hn hw
    exact (lawTableText n A cap b p' q' xs R0 W hE hraw hn hs hi).mono done
  · exact (lawTableText_big n A xs.length cap b p' q' W (by omega) hmax).mono fun e W' h => done e W' ⟨h.1, h.2.below⟩

set_option maxHeartbeats 2000000 in
theorem closedTableText : joinedFacts Tryd.pinned.checked.prog 3 Tryd.f3 Rows.fnExactTableTextSpec Rows.fnExactTableTextRow = true := by
  unfold joinedFacts
  refine Bool.and_eq_true_iff.2 ⟨?_, by as_aux_lemma => kernel_rfl⟩
  refine Bool.and_eq_true_iff.2 ⟨?_, by as_aux_lemma => kernel_rfl⟩
  refine Bool.and_eq_true_iff.2 ⟨?_, by as_aux_lemma => kernel_rfl⟩
  refine Bool.and_eq_true_iff.2 ⟨?_, by as_aux_lemma => kernel_rfl⟩
  refine Bool.and_eq_true_iff.2 ⟨?_, by rw [fact_make]; rfl⟩
  refine Bool.and_eq_true_iff.2 ⟨?_, by rw [fact_final]; rfl⟩
  refine Bool.and_eq_true_iff.2 ⟨?_, fact_enters⟩
  refine Bool.and_eq_true_iff.2 ⟨?_, by as_aux_lemma => kernel_rfl⟩
  refine Bool.and_eq_true_iff.2 ⟨?_, by as_aux_lemma => kernel_rfl⟩
  refine Bool.and_eq_true_iff.2 ⟨?_, by as_aux_lemma => kernel_rfl⟩
  refine Bool.and_eq_true_iff.2 ⟨?_, by as_aux_lemma => kernel_rfl⟩
  refine Bool.and_eq_true_iff.2 ⟨?_, by as_aux_lemma => kernel_rfl⟩
  refine Bool.and_eq_true_iff.2 ⟨?_, by as_aux_lemma => kernel_rfl⟩
  refine Bool.and_eq_true_iff.2 ⟨?_, by as_aux_lemma => kernel_rfl⟩
  refine Bool.and_eq_true_iff.2 ⟨?_, by as_aux_lemma => kernel_rfl⟩
  refine Bool.and_eq_true_iff.2 ⟨?_, by as_aux_lemma => kernel_rfl⟩
  refine Bool.and_eq_true_iff.2 ⟨?_, by as_aux_lemma => kernel_rfl⟩
  refine Bool.and_eq_true_iff.2 ⟨?_, by as_aux_lemma => kernel_rfl⟩
  refine Bool.and_eq_true_iff.2 ⟨?_, by as_aux_lemma => kernel_rfl⟩
  refine Bool.and_eq_true_iff.2 ⟨?_, by as_aux_lemma => kernel_rfl⟩
  refine Bool.and_eq_true_iff.2 ⟨?_, by as_aux_lemma => kernel_rfl⟩
  refine Bool.and_eq_true_iff.2 ⟨?_, by as_aux_lemma => kernel_rfl⟩
  refine Bool.and_eq_true_iff.2 ⟨?_, by as_aux_lemma => kernel_rfl⟩
  refine Bool.and_eq_true_iff.2 ⟨?_, by as_aux_lemma => kernel_rfl⟩
  refine Bool.and_eq_true_iff.2 ⟨?_, by as_aux_lemma => kernel_rfl⟩
  refine Bool.and_eq_true_iff.2 ⟨?_, by as_aux_lemma => kernel_rfl⟩
  refine Bool.and_eq_true_iff.2 ⟨?_, by as_aux_lemma => kernel_rfl⟩
  refine Bool.and_eq_true_iff.2 ⟨?_, by as_aux_lemma => kernel_rfl⟩
  refine Bool.and_eq_true_iff.2 ⟨?_, by as_aux_lemma => kernel_rfl⟩
  refine Bool.and_eq_true_iff.2 ⟨?_, by as_aux_lemma => kernel_rfl⟩
  as_aux_lemma => kernel_rfl
theorem tableText_holds : Rows.FnExactTableTextSaid :=
  OpenClaim.holds_of_wide 3 Tryd.f3 rfl rfl rfl rfl rfl rfl rfl ⟨rfl, rfl, rfl, rfl, rfl⟩ rfl rfl rfl rfl rfl (by as_aux_lemma => kernel_rfl) Tryd.func3 closedTableText
    (of_decide_eq_true (by as_aux_lemma => kernel_rfl)) (by unfold Func.isWrapper; rw [if_neg (by decide +kernel)]; exact ⟨rfl, rfl⟩)
    (fun os started H enc _ => liftedTableText os started H enc)
theorem tableText_card : Rows.FnExactTableTextCardSaid :=
  Claim7.holds_tied_plain_at .later [] [.data, .data, .data] true Rows.fnExactTableTextCard.stood.harness true
    tableText_holds (fun _ h => by cases h) (by kernel_rfl) (fun _ h => by cases h) fnExactTableText_row_tie rfl ⟨rfl, rfl⟩ (by kernel_rfl) rfl
    (fun f fn hf hfn => by
      obtain rfl : f = 3 := Option.some.inj ((show Tryd.prog.funcNamed "loop.example/g01254/laws.FnExactTableText" = some 3 by kernel_rfl).symm.trans hf) |>.symm
      obtain rfl : fn = Tryd.f3 := (Option.some.inj (Tryd.func3.symm.trans hfn)).symm
      exact ⟨by kernel_rfl, fun j t ht => by
        rw [Tryd.params3] at ht
        have hm : t = 26 := by
          rcases j with _ | j
          · simpa using ht.symm
          · simp at ht
        subst hm
        exact (show Tryd.prog.wantsStandIn 26 = false by kernel_rfl)⟩)
    (by kernel_rfl)
end Go.Proofs.YtkeflpcokcfcjaaDoor
