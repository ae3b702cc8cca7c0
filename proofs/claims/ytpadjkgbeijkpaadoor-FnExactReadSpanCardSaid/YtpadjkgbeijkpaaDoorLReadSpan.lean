/- The law FnExactReadSpan of the laws package returns true for every text. No condition but what the program's own text lays in its package-level variables (tied). -/
import Derived.Test.YtpadjkgbeijkpaaDoorRows
import Derived.Test.YtpadjkgbeijkpaaDoorTj
import Derived.Test.YtpadjkgbeijkpaaDoorCards
import Derived.Test.YtpadjkgbeijkpaaDoorTie
import Derived.SevenTiedAt
import Derived.ChangeSame
import Derived.ChangeVars
import Derived.ChangeMaps5
import Derived.JoinedOf
import Derived.LaidLaws
import Derived.LaidHandle
import Derived.Stop.Joined
import Derived.Test.YtpadjkgbeijkpaaDoorRd
import Derived.Test.YtpadjkgbeijkpaaDoorFacts
import Derived.ProofKit
import Derived.Carry
import Derived.Lib.SmallJoins
namespace Go.Proofs.YtpadjkgbeijkpaaDoor
open Go.RowKit Go.Sort

set_option maxRecDepth 20000 in
set_option maxHeartbeats 1000000 in
theorem lawReadSpan (s : ByteArray) (a b c d C : Int) (w : World) (E : Hid (TxW w)) (hs9 : s.size ≤ 1048576)
    (hs : ∀ w, Calls Tryd.prog 12 #[.string s] w fun e w' => e = .returned (.tuple #[sp a b c d, .int .i64 C]) ∧ Gr w w')
    (hi : ∀ w, Hid (TxW w) → Calls Tryd.prog 13 #[.string s] w fun e w' => e = .returned (.tuple #[sp a b c d, .int .i64 C]) ∧ Bl w w') :
    Calls Tryd.prog 4 #[.string s] w fun e w' => e = .returned (.bool true) ∧ Bl w w' := by
  have HS := hid hs; have HI := hid hi; clear hs hi
  have h9 : ¬ (1048576 : Int) < (s.size : Int) := by omega
  go_enter Tryd.func4, Tryd.ntmps4
  go_wp2_with fail
  refine (HS.out _).mono ?_
  rintro e w1 ⟨rfl, hg1⟩
  have hv1 := (alloc1 (w := w1) (A := .cells #[.int .i64 a, .int .i64 b, .int .i64 c, .int .i64 d] 29) (Gr.refl _)).1
  have V1 := hid hv1; have G1 := hid (hg1.al (.cells #[.int .i64 a, .int .i64 b, .int .i64 c, .int .i64 d] 29))
  clear hv1 hg1
  obtain ⟨_, _, _, _⟩ := cells4 V1.out
  have _ := ltb V1.out
  go_wp2_with fail
  refine (HI.out _ (hid (E.out.gr G1.out))).mono ?_
  rintro e w2 ⟨rfl, hb2⟩
  have V2 := hid (bl_keep hb2 V1.out); have B2 := hid (Bl.tr G1.out.below hb2); clear hb2 V1
  have P2 := hid (alloc1 (w := w2) (A := .cells #[.int .i64 a, .int .i64 b, .int .i64 c, .int .i64 d] 29) (Gr.refl _)).1
  obtain ⟨_, _, _, _⟩ := cells4 V2.out
  have _ := ltb V2.out
  go_wp2_with fail
  refine (eqSpan_any _ _ _ _ _).mono ?_
  rintro e w3 ⟨rfl, hg3⟩
  have B3 := hid (Bl.tr B2.out (((Gr.refl _).al _).trans hg3).below); clear hg3
  go_wp2
  go_ret
  exact ⟨rfl, B3.out⟩
set_option maxRecDepth 20000 in
set_option maxHeartbeats 400000 in
theorem lawReadSpan_big (s : ByteArray) (w : World) (h : 1048576 < s.size) (h2 : s.size ≤ 9223372036854775807) :
    Calls Tryd.prog 4 #[.string s] w fun e w' => e = .returned (.bool true) ∧ Bl w w' := by
  have h9 : (1048576 : Int) < (s.size : Int) := by omega
  go_enter Tryd.func4, Tryd.ntmps4
  go_wp2
  go_ret
  exact ⟨rfl, Below.refl _ _⟩
open Go.ChangeShapes Go.WideShapes Go.ChangeAt Go.Joins
theorem laidOutReadSpan : laidOutB Tryd.prog = true := by as_aux_lemma => kernel_rfl
noncomputable def lowReadSpan : Nat := (World.holding Tryd.prog default ⟨#[], #[], []⟩).heap.size
/-- A world in which the variables are laid. -/
noncomputable def laidWReadSpan (os : Os) : World :=
  let w0 := World.holding Tryd.prog os ⟨#[.cells #[.string ⟨#[118, 97, 108, 117, 101, 32, 111, 117, 116, 32, 111, 102, 32, 114, 97, 110, 103, 101]⟩] 223, .cells #[.string ⟨#[105, 110, 118, 97, 108, 105, 100, 32, 115, 121, 110, 116, 97, 120]⟩] 223], #[], []⟩
  let w1 := { w0 with heap := w0.heap.modify 6 fun
      | .cells _ t frozen => .cells (litCells Rows.laid_math_bits_deBruijn32tab) t frozen
      | o => o }
  let w2 := { w1 with heap := w1.heap.modify 7 fun
      | .cells _ t frozen => .cells (litCells Rows.laid_math_bits_deBruijn64tab) t frozen
      | o => o }
  let w3 := { w2 with heap := w2.heap.modify 3 fun
      | .cells _ t frozen => .cells (litCells Rows.laid_internal_strconv_uint64pow10) t frozen
      | o => o }
  let w4 := { w3 with heap := w3.heap.modify 2 fun
      | .cells _ t frozen => .cells #[.iface 221 (.pointer (some ⟨lowReadSpan + 0, 0, none⟩))] t frozen
      | o => o }
  let w5 := { w4 with heap := w4.heap.modify 1 fun
      | .cells _ t frozen => .cells #[.iface 221 (.pointer (some ⟨lowReadSpan + 1, 0, none⟩))] t frozen
      | o => o }
  w5
set_option maxRecDepth 100000 in
theorem laidWReadSpan_met (os : Os) (args : Array Value) : laidMetH Tryd.prog [("math/bits.deBruijn32tab", Rows.laid_math_bits_deBruijn32tab), ("math/bits.deBruijn64tab", Rows.laid_math_bits_deBruijn64tab), ("internal/strconv.uint64pow10", Rows.laid_internal_strconv_uint64pow10), ("strconv.ErrRange", Rows.laid_strconv_ErrRange), ("strconv.ErrSyntax", Rows.laid_strconv_ErrSyntax)] ((laidWReadSpan os).forCall (fun _ _ => 0) ⟨#[], args, []⟩).memory :=
  laidMetH_of_parts (laidMet_of_run' 9 (by kernel_rfl) (by kernel_rfl)) (by kernel_rfl)
set_option maxRecDepth 100000 in
theorem liftedReadSpan (os : Os) (started : os.Started) (H : Type) (enc : TypeId × Value → H) :
    ReturnsInHanded {} Tryd.checked os 4 .any (fun w args => (Rows.fnExactReadSpanSpec.pre enc Tryd.prog Tryd.f4 [] false w args ∧ laidMetH Tryd.prog [("math/bits.deBruijn32tab", Rows.laid_math_bits_deBruijn32tab), ("math/bits.deBruijn64tab", Rows.laid_math_bits_deBruijn64tab), ("internal/strconv.uint64pow10", Rows.laid_internal_strconv_uint64pow10), ("strconv.ErrRange", Rows.laid_strconv_ErrRange), ("strconv.ErrSyntax", Rows.laid_strconv_ErrSyntax)] w) ∧ sizedMet enc Tryd.prog Tryd.f4 (OpenSpec.ofChange Rows.fnExactReadSpanSpec) false w args)
      (Rows.fnExactReadSpanSpec.post enc Tryd.prog Tryd.f4 false true false false) := by
  refine handed_of (C := Tryd.checked) (X := fun w _ => laidMetH Tryd.prog [("math/bits.deBruijn32tab", Rows.laid_math_bits_deBruijn32tab), ("math/bits.deBruijn64tab", Rows.laid_math_bits_deBruijn64tab), ("internal/strconv.uint64pow10", Rows.laid_internal_strconv_uint64pow10), ("strconv.ErrRange", Rows.laid_strconv_ErrRange), ("strconv.ErrSyntax", Rows.laid_strconv_ErrSyntax)] w) (fun _ _ _ hh h => h.of_heap hh) ownNone started (by kernel_rfl) Tryd.func4
    (ChangeSpec.witness_at (enc := enc) (C := Tryd.checked) (os := os) (X := fun w _ => laidMetH Tryd.prog [("math/bits.deBruijn32tab", Rows.laid_math_bits_deBruijn32tab), ("math/bits.deBruijn64tab", Rows.laid_math_bits_deBruijn64tab), ("internal/strconv.uint64pow10", Rows.laid_internal_strconv_uint64pow10), ("strconv.ErrRange", Rows.laid_strconv_ErrRange), ("strconv.ErrSyntax", Rows.laid_strconv_ErrSyntax)] w) false (laidWReadSpan os) #[.string ⟨#[]⟩] 8 rfl (by kernel_rfl) (by kernel_rfl) (by kernel_rfl) (by kernel_rfl) (by kernel_rfl) (laidWReadSpan_met os _)) ?_
  intro W base args ds gs before hval0 hW hL hsh
  have hE := hid (TxW_of_laid (by simp) (by simp) (by simp) hL hsh)
  have hval : ∀ (j : Nat) t v, Tryd.f4.params[j]? = some t → args[j]? = some v → Value.okWide Tryd.prog W .any base t v := hval0
  have hW' := hW
  obtain ⟨p, q, hA0, hV, rfl, _, _⟩ := hW
  have hA : DataW.TrodAll enc Tryd.prog W 0 (fun _ => true) true Tryd.f4.params.toList args.toList ds p := hA0
  rw [Tryd.params4] at hA hval
  obtain ⟨v0, d0, rfl, rfl, h0⟩ := trodAll_one hA
  obtain ⟨rfl, rfl⟩ := trodVars_none hV
  clear hA0 hval0
  simp only [List.append_nil] at hW'
  obtain ⟨s, rfl, rfl, rfl, ws⟩ := ChangeMaps.open_string Tryd.underlying9 (hval 0 9 v0 rfl rfl) h0
  have done : ∀ (e : Ending) (W' : World), e = .returned (.bool true) ∧ Bl W W' → ∃ v, e = .returned v ∧ Rows.fnExactReadSpanSpec.post enc Tryd.prog Tryd.f4 false true false false W #[.string s] v W' := fun e W' ⟨he, hg⟩ => by
    subst he
    exact ⟨_, rfl, _, _, _, [], [], [], hW', trodAll_mk1 (shut_bool Tryd.underlying4 _), trodAll_mk1 (ChangeMaps.shut_string Tryd.underlying9 ws), rfl, Below.frame hg _, fun h => by cases h⟩
  by_cases h : s.size ≤ 1048576
  · obtain ⟨a, b, c, d, C, hS, hI⟩ := bothReadSpan s h
    exact (lawReadSpan s a b c d C W hE h hS hI).mono done
  · exact (lawReadSpan_big s W (by omega) (by unfold maxLen at ws; omega)).mono done

set_option maxHeartbeats 2000000 in
theorem closedReadSpan : joinedFacts Tryd.pinned.checked.prog 4 Tryd.f4 Rows.fnExactReadSpanSpec Rows.fnExactReadSpanRow = true := by
  unfold joinedFacts
  refine Bool.and_eq_true_iff.2 ⟨?_, by as_aux_lemma => kernel_rfl⟩
  refine Bool.and_eq_true_iff.2 ⟨?_, by as_aux_lemma => kernel_rfl⟩
  refine Bool.and_eq_true_iff.2 ⟨?_, by as_aux_lemma => kernel_rfl⟩
  refine Bool.and_eq_true_iff.2 ⟨?_, by as_aux_lemma => kernel_rfl⟩
  refine Bool.and_eq_true_iff.2 ⟨?_, by rw [fact_make]; rfl⟩
  refine Bool.and_eq_true_iff.2 ⟨?_, by rw [fact_final]; rfl⟩
  refine Bool.and_eq_true_iff.2 ⟨?_, fact_enters⟩
  refine Bool.and_eq_true_iff.2 ⟨?_, by as_aux_lemma => kernel_rfl⟩
  refine Bool.and_eq_true_iff.2 ⟨?_, by as_aux_lemma => kernel_rfl⟩
  refine Bool.and_eq_true_iff.2 ⟨?_, by as_aux_lemma => kernel_rfl⟩
  refine Bool.and_eq_true_iff.2 ⟨?_, by as_aux_lemma => kernel_rfl⟩
  refine Bool.and_eq_true_iff.2 ⟨?_, by as_aux_lemma => kernel_rfl⟩
  refine Bool.and_eq_true_iff.2 ⟨?_, by as_aux_lemma => kernel_rfl⟩
  refine Bool.and_eq_true_iff.2 ⟨?_, by as_aux_lemma => kernel_rfl⟩
  refine Bool.and_eq_true_iff.2 ⟨?_, by as_aux_lemma => kernel_rfl⟩
  refine Bool.and_eq_true_iff.2 ⟨?_, by as_aux_lemma => kernel_rfl⟩
  refine Bool.and_eq_true_iff.2 ⟨?_, by as_aux_lemma => kernel_rfl⟩
  refine Bool.and_eq_true_iff.2 ⟨?_, by as_aux_lemma => kernel_rfl⟩
  refine Bool.and_eq_true_iff.2 ⟨?_, by as_aux_lemma => kernel_rfl⟩
  refine Bool.and_eq_true_iff.2 ⟨?_, by as_aux_lemma => kernel_rfl⟩
  refine Bool.and_eq_true_iff.2 ⟨?_, by as_aux_lemma => kernel_rfl⟩
  refine Bool.and_eq_true_iff.2 ⟨?_, by as_aux_lemma => kernel_rfl⟩
  refine Bool.and_eq_true_iff.2 ⟨?_, by as_aux_lemma => kernel_rfl⟩
  refine Bool.and_eq_true_iff.2 ⟨?_, by as_aux_lemma => kernel_rfl⟩
  refine Bool.and_eq_true_iff.2 ⟨?_, by as_aux_lemma => kernel_rfl⟩
  refine Bool.and_eq_true_iff.2 ⟨?_, by as_aux_lemma => kernel_rfl⟩
  refine Bool.and_eq_true_iff.2 ⟨?_, by as_aux_lemma => kernel_rfl⟩
  refine Bool.and_eq_true_iff.2 ⟨?_, by as_aux_lemma => kernel_rfl⟩
  refine Bool.and_eq_true_iff.2 ⟨?_, by as_aux_lemma => kernel_rfl⟩
  refine Bool.and_eq_true_iff.2 ⟨?_, by as_aux_lemma => kernel_rfl⟩
  as_aux_lemma => kernel_rfl
theorem readSpan_holds : Rows.FnExactReadSpanSaid :=
  OpenClaim.holds_of_wide 4 Tryd.f4 rfl rfl rfl rfl rfl rfl rfl ⟨rfl, rfl, rfl, rfl, rfl⟩ rfl rfl rfl rfl rfl (by as_aux_lemma => kernel_rfl) Tryd.func4 closedReadSpan
    (of_decide_eq_true (by as_aux_lemma => kernel_rfl)) (by unfold Func.isWrapper; rw [if_neg (by decide +kernel)]; exact ⟨rfl, rfl⟩)
    (fun os started H enc _ => liftedReadSpan os started H enc)
theorem readSpan_card : Rows.FnExactReadSpanCardSaid :=
  Claim7.holds_tied_plain_at .later [] [.data, .data, .data, .sentinel, .sentinel] true Rows.fnExactReadSpanCard.stood.harness true
    readSpan_holds (fun _ h => by cases h) (by kernel_rfl) (fun _ h => by cases h) fnExactReadSpan_row_tie rfl ⟨rfl, rfl⟩ (by kernel_rfl) rfl
    (fun f fn hf hfn => by
      obtain rfl : f = 4 := Option.some.inj ((show Tryd.prog.funcNamed "loop.example/g01254/laws.FnExactReadSpan" = some 4 by kernel_rfl).symm.trans hf) |>.symm
      obtain rfl : fn = Tryd.f4 := (Option.some.inj (Tryd.func4.symm.trans hfn)).symm
      exact ⟨by kernel_rfl, fun j t ht => by
        rw [Tryd.params4] at ht
        have hm : t = 9 := by
          rcases j with _ | j
          · simpa using ht.symm
          · simp at ht
        subst hm
        exact (show Tryd.prog.wantsStandIn 9 = false by kernel_rfl)⟩)
    (by kernel_rfl)
end Go.Proofs.YtpadjkgbeijkpaaDoor
