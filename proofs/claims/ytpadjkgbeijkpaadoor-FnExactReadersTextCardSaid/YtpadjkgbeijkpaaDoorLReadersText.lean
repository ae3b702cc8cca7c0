/- The law FnExactReadersText of the laws package returns true for every slice of readers, valid or not; it reads behind the call as before it. No condition but what the program's own text lays in its package-level variables (tied). -/
import Derived.Test.YtpadjkgbeijkpaaDoorRows
import Derived.Test.YtpadjkgbeijkpaaDoorJy
import Derived.Test.YtpadjkgbeijkpaaDoorDl
import Derived.Test.YtpadjkgbeijkpaaDoorCards
import Derived.Test.YtpadjkgbeijkpaaDoorTie
import Derived.SevenTiedAt
import Derived.ChangeSame
import Derived.ChangeVars
import Derived.JoinedOf
import Derived.LaidLaws
import Derived.LaidHandle
import Derived.Stop.Joined
import Derived.Test.YtpadjkgbeijkpaaDoorRd
import Derived.Test.YtpadjkgbeijkpaaDoorRh
import Derived.Test.YtpadjkgbeijkpaaDoorRe
import Derived.Test.YtpadjkgbeijkpaaDoorFacts
import Derived.ProofKit
import Derived.Carry
import Derived.Lib.SmallJoins
namespace Go.Proofs.YtpadjkgbeijkpaaDoor
open Go.RowKit Go.Sort

theorem RawRq.bl {w w' : World} {v : Value} {xs : List Rqv} (h : RawRq w v xs) (hb : Bl w w') : RawRq w' v xs := by
  rcases h with h | ⟨ad, cap, h1, h3⟩
  · exact .inl h
  · exact .inr ⟨ad, cap, h1, fun k x hk => (h3 k x hk).bl hb⟩
set_option maxRecDepth 20000 in
set_option maxHeartbeats 4000000 in
theorem lawReadersText (A : Option Addr) (cap : Nat) (xs : List Rqv) (S : ByteArray) (q0 : Int) (w : World) (T : Hid (Pow w)) (hr : RawRq w (.slice A xs.length cap) xs) (hn : xs.length ≤ 1048576) (hmax : xs.length ≤ 9223372036854775807) (hz : ∀ x ∈ xs, x.nm.size ≤ 9223372036854775807) (hq : szToR xs 1048576 = q0) (hp : 0 ≤ q0)
    (hs : ∀ (g c : Nat) (w : World), Hid (RdRq w (some ⟨g, 0, none⟩) xs) → Calls Tryd.prog 28 #[.slice (some ⟨g, 0, none⟩) xs.length c] w fun x w' => x = .returned (.string S) ∧ Gr w w')
    (hi : ∀ (g c : Nat) (w : World), Hid (RdRq w (some ⟨g, 0, none⟩) xs) → Hid (Pow w) → Calls Tryd.prog 30 #[.slice (some ⟨g, 0, none⟩) xs.length c] w fun x w' => x = .returned (.string S) ∧ Bl w w') :
    Calls Tryd.prog 8 #[.slice A xs.length cap] w fun x w' => x = .returned (.bool true) ∧ Bl w w' := by
  have HS := hid hs; have HI := hid hi; have HR := hid hr
  have HSZ := hid fun (w : World) (h : RawRq w (.slice A xs.length cap) xs) => szRq_is _ A cap xs 1048576 q0 w rfl h hmax hz (by omega) (by omega) hq
  clear hs hi hr hz hq hmax
  go_enter Tryd.func8, Tryd.ntmps8
  go_wp2_with fail
  refine (HSZ.out _ HR.out).mono ?_
  rintro e w1 ⟨rfl, hg⟩
  have G1 := hid hg; clear hg
  go_wp2_with fail
  refine (toReaderS_any _ xs _ hn (HR.out.keep G1.out)).mono ?_
  rintro e w2 ⟨rfl, xx, hg⟩
  have X2 := hid xx; have G2 := hid (G1.out.trans hg); clear xx hg
  go_wp2_with fail
  refine (HS.out _ _ _ (hid (RdRq.of_block X2.out))).mono ?_
  rintro e w3 ⟨rfl, hg⟩
  have G3 := hid (G2.out.trans hg); clear hg X2
  go_wp2_with fail
  refine (toReaderS_any _ xs _ hn (HR.out.keep G3.out)).mono ?_
  rintro e w4 ⟨rfl, xx, hg⟩
  have X4 := hid xx; have G4 := hid (G3.out.trans hg); clear xx hg
  go_wp2_with fail
  refine (HI.out _ _ _ (hid (RdRq.of_block X4.out)) (hid (T.out.keep G4.out))).mono ?_
  rintro e w5 ⟨rfl, hb⟩
  have X5 := hid (bl_keep hb X4.out)
  have B5 := hid (Bl.tr G4.out.below hb)
  have R5 := hid (RawRq.bl (HR.out.keep G4.out) hb)
  clear hb X4
  go_wp2_with fail
  refine (toReaderS_any _ xs _ hn R5.out).mono ?_
  rintro e w6 ⟨rfl, xx, hg⟩
  have X6 := hid xx; have Y6 := hid (hg.keep X5.out); have G6 := hid hg; clear xx hg
  go_wp2_with fail
  refine (eqRqq_any _ _ _ _ xs _ (hid (RdRq.of_block Y6.out)) (hid (RdRq.of_block X6.out)) hn).mono ?_
  rintro e w7 ⟨rfl, hg⟩
  have G7 := hid (G6.out.trans hg); clear hg
  go_wp2_with fail
  go_ret
  exact ⟨rfl, Bl.tr B5.out G7.out.below⟩
set_option maxRecDepth 20000 in
set_option maxHeartbeats 400000 in
theorem lawReadersText_big (A : Option Addr) (cap : Nat) (xs : List Rqv) (w : World) (hr : RawRq w (.slice A xs.length cap) xs) (hmax : xs.length ≤ 9223372036854775807) (hz : ∀ x ∈ xs, x.nm.size ≤ 9223372036854775807) (hq : szToR xs 1048576 = -1) :
    Calls Tryd.prog 8 #[.slice A xs.length cap] w fun e w' => e = .returned (.bool true) ∧ Bl w w' := by
  have HSZ := hid fun (w : World) (h : RawRq w (.slice A xs.length cap) xs) => szRq_is _ A cap xs 1048576 (-1) w rfl h hmax hz (by omega) (by omega) hq
  have HR := hid hr
  clear hz hq hmax hr
  go_enter Tryd.func8, Tryd.ntmps8
  go_wp2_with fail
  refine (HSZ.out _ HR.out).mono ?_
  rintro e w1 ⟨rfl, hg1⟩
  have G1 := hid hg1; clear hg1
  go_wp2_with fail
  go_ret
  exact ⟨rfl, G1.out.below⟩
open Go.ChangeShapes Go.WideShapes Go.ChangeAt Go.Joins
theorem laidOutReadersText : laidOutB Tryd.prog = true := by as_aux_lemma => kernel_rfl
/-- A world in which the variables are laid. -/
noncomputable def laidWReadersText (os : Os) : World :=
  let w0 := World.holding Tryd.prog os ⟨#[], #[], []⟩
  let w1 := { w0 with heap := w0.heap.modify 6 fun
      | .cells _ t frozen => .cells (litCells Rows.laid_math_bits_deBruijn32tab) t frozen
      | o => o }
  let w2 := { w1 with heap := w1.heap.modify 7 fun
      | .cells _ t frozen => .cells (litCells Rows.laid_math_bits_deBruijn64tab) t frozen
      | o => o }
  let w3 := { w2 with heap := w2.heap.modify 3 fun
      | .cells _ t frozen => .cells (litCells Rows.laid_internal_strconv_uint64pow10) t frozen
      | o => o }
  w3
set_option maxRecDepth 100000 in
theorem laidWReadersText_met (os : Os) (args : Array Value) : laidMetH Tryd.prog [("math/bits.deBruijn32tab", Rows.laid_math_bits_deBruijn32tab), ("math/bits.deBruijn64tab", Rows.laid_math_bits_deBruijn64tab), ("internal/strconv.uint64pow10", Rows.laid_internal_strconv_uint64pow10)] ((laidWReadersText os).forCall (fun _ _ => 0) ⟨#[], args, []⟩).memory :=
  laidMetH_of_parts (laidMet_of_run' 9 (by kernel_rfl) (by kernel_rfl)) (by kernel_rfl)
set_option maxRecDepth 100000 in
theorem liftedReadersText (os : Os) (started : os.Started) (H : Type) (enc : TypeId × Value → H) :
    ReturnsInHanded {} Tryd.checked os 8 .any (fun w args => (Rows.fnExactReadersTextSpec.pre enc Tryd.prog Tryd.f8 [] false w args ∧ laidMetH Tryd.prog [("math/bits.deBruijn32tab", Rows.laid_math_bits_deBruijn32tab), ("math/bits.deBruijn64tab", Rows.laid_math_bits_deBruijn64tab), ("internal/strconv.uint64pow10", Rows.laid_internal_strconv_uint64pow10)] w) ∧ sizedMet enc Tryd.prog Tryd.f8 (OpenSpec.ofChange Rows.fnExactReadersTextSpec) false w args)
      (Rows.fnExactReadersTextSpec.post enc Tryd.prog Tryd.f8 false true false false) := by
  refine returnsInHanded_of_change_and (C := Tryd.checked) (X := fun w _ => laidMetH Tryd.prog [("math/bits.deBruijn32tab", Rows.laid_math_bits_deBruijn32tab), ("math/bits.deBruijn64tab", Rows.laid_math_bits_deBruijn64tab), ("internal/strconv.uint64pow10", Rows.laid_internal_strconv_uint64pow10)] w) (fun _ _ _ hh h => h.of_heap hh) ownNone started (by kernel_rfl) Tryd.func8
    (ChangeSpec.witness_at (enc := enc) (C := Tryd.checked) (os := os) (X := fun w _ => laidMetH Tryd.prog [("math/bits.deBruijn32tab", Rows.laid_math_bits_deBruijn32tab), ("math/bits.deBruijn64tab", Rows.laid_math_bits_deBruijn64tab), ("internal/strconv.uint64pow10", Rows.laid_internal_strconv_uint64pow10)] w) false (laidWReadersText os) #[.slice none 0 0] 8 rfl (by kernel_rfl) (by kernel_rfl) (by kernel_rfl) (by kernel_rfl) (by kernel_rfl) (laidWReadersText_met os _)) ?_
  intro W base args ds gs before hval0 hW _ _ hL _
  have hE := hid (Pow_of_laid (by simp) hL)
  have hval : ∀ (j : Nat) t v, Tryd.f8.params[j]? = some t → args[j]? = some v → Value.okWide Tryd.prog W .any base t v := hval0
  have hW' := hW
  obtain ⟨p, q, hA0, hV, rfl, _, _⟩ := hW
  have hA : DataW.TrodAll enc Tryd.prog W 0 (fun _ => true) true Tryd.f8.params.toList args.toList ds p := hA0
  rw [Tryd.params8] at hA hval
  obtain ⟨v0, d0, rfl, rfl, h0⟩ := trodAll_one hA
  obtain ⟨rfl, rfl⟩ := trodVars_none hV
  clear hA0 hval0
  simp only [List.append_nil] at hW'
  have hlt : ∀ x ∈ p, x.block < W.heap.size := fun x hx => by simpa using hW'.lt x (by simpa using hx)
  have done : ∀ (e : Ending) (W' : World), e = .returned (.bool true) ∧ Bl W W' → ∃ v, e = .returned v ∧ Rows.fnExactReadersTextSpec.post enc Tryd.prog Tryd.f8 false true false false W #[v0] v W' := fun e W' ⟨he, hg⟩ => by
    subst he
    exact ⟨_, rfl, _, _, _, [], p, [], hW', trodAll_mk1 (shut_bool Tryd.underlying4 _), trodAll_mk1 (Below.trod laidOutReadersText (by kernel_rfl) (of_decide_eq_true (by kernel_rfl)) h0 hg fun x hx => hlt x (by simpa using hx)), rfl, Below.frame hg _, fun h => by cases h⟩
  obtain ⟨A, m, cap, rfl⟩ := okWide_slice Tryd.underlying58 (hval 0 58 v0 rfl rfl)
  obtain ⟨hmax, xs, rfl, hraw, hs⟩ := open_rdrs h0
  have hz : ∀ x ∈ xs, x.nm.size ≤ 9223372036854775807 := fun x hx => by have := (hs x hx).1; unfold maxLen at this; omega
  have hwf : xs.all wfR = true := List.all_eq_true.2 fun x hx => (hs x hx).2
  obtain ⟨q0, hq0⟩ : ∃ q, szToR xs 1048576 = q := ⟨_, rfl⟩
  obtain ⟨b0, b1, b2⟩ := szToR_bd xs 1048576 q0 (by omega) hq0
  by_cases hp : 0 ≤ q0
  · have hn : xs.length ≤ 1048576 := by have := b2 hp; omega
    obtain ⟨S, hS, hI⟩ := bothReadersText xs hn hwf
    exact (lawReadersText A cap xs S q0 W hE hraw hn hmax hz hq0 hp hS hI).mono done
  · exact (lawReadersText_big A cap xs W hraw hmax hz (by omega)).mono done

set_option maxHeartbeats 2000000 in
theorem closedReadersText : joinedFacts Tryd.pinned.checked.prog 8 Tryd.f8 Rows.fnExactReadersTextSpec Rows.fnExactReadersTextRow = true := by
  unfold joinedFacts
  refine Bool.and_eq_true_iff.2 ⟨?_, by as_aux_lemma => kernel_rfl⟩
  refine Bool.and_eq_true_iff.2 ⟨?_, by as_aux_lemma => kernel_rfl⟩
  refine Bool.and_eq_true_iff.2 ⟨?_, by as_aux_lemma => kernel_rfl⟩
  refine Bool.and_eq_true_iff.2 ⟨?_, by as_aux_lemma => kernel_rfl⟩
  refine Bool.and_eq_true_iff.2 ⟨?_, by rw [fact_make]; rfl⟩
  refine Bool.and_eq_true_iff.2 ⟨?_, by rw [fact_final]; rfl⟩
  refine Bool.and_eq_true_iff.2 ⟨?_, fact_enters⟩
  refine Bool.and_eq_true_iff.2 ⟨?_, by as_aux_lemma => kernel_rfl⟩
  refine Bool.and_eq_true_iff.2 ⟨?_, by as_aux_lemma => kernel_rfl⟩
  refine Bool.and_eq_true_iff.2 ⟨?_, by as_aux_lemma => kernel_rfl⟩
  refine Bool.and_eq_true_iff.2 ⟨?_, by as_aux_lemma => kernel_rfl⟩
  refine Bool.and_eq_true_iff.2 ⟨?_, by as_aux_lemma => kernel_rfl⟩
  refine Bool.and_eq_true_iff.2 ⟨?_, by as_aux_lemma => kernel_rfl⟩
  refine Bool.and_eq_true_iff.2 ⟨?_, by as_aux_lemma => kernel_rfl⟩
  refine Bool.and_eq_true_iff.2 ⟨?_, by as_aux_lemma => kernel_rfl⟩
  refine Bool.and_eq_true_iff.2 ⟨?_, by as_aux_lemma => kernel_rfl⟩
  refine Bool.and_eq_true_iff.2 ⟨?_, by as_aux_lemma => kernel_rfl⟩
  refine Bool.and_eq_true_iff.2 ⟨?_, by as_aux_lemma => kernel_rfl⟩
  refine Bool.and_eq_true_iff.2 ⟨?_, by as_aux_lemma => kernel_rfl⟩
  refine Bool.and_eq_true_iff.2 ⟨?_, by as_aux_lemma => kernel_rfl⟩
  refine Bool.and_eq_true_iff.2 ⟨?_, by as_aux_lemma => kernel_rfl⟩
  refine Bool.and_eq_true_iff.2 ⟨?_, by as_aux_lemma => kernel_rfl⟩
  refine Bool.and_eq_true_iff.2 ⟨?_, by as_aux_lemma => kernel_rfl⟩
  refine Bool.and_eq_true_iff.2 ⟨?_, by as_aux_lemma => kernel_rfl⟩
  refine Bool.and_eq_true_iff.2 ⟨?_, by as_aux_lemma => kernel_rfl⟩
  refine Bool.and_eq_true_iff.2 ⟨?_, by as_aux_lemma => kernel_rfl⟩
  refine Bool.and_eq_true_iff.2 ⟨?_, by as_aux_lemma => kernel_rfl⟩
  refine Bool.and_eq_true_iff.2 ⟨?_, by as_aux_lemma => kernel_rfl⟩
  refine Bool.and_eq_true_iff.2 ⟨?_, by as_aux_lemma => kernel_rfl⟩
  refine Bool.and_eq_true_iff.2 ⟨?_, by as_aux_lemma => kernel_rfl⟩
  as_aux_lemma => kernel_rfl
theorem readersText_holds : Rows.FnExactReadersTextSaid :=
  OpenClaim.holds_of_wide 8 Tryd.f8 rfl rfl rfl rfl rfl rfl rfl ⟨rfl, rfl, rfl, rfl, rfl⟩ rfl rfl rfl rfl rfl (by as_aux_lemma => kernel_rfl) Tryd.func8 closedReadersText
    (of_decide_eq_true (by as_aux_lemma => kernel_rfl)) (by unfold Func.isWrapper; rw [if_neg (by decide +kernel)]; exact ⟨rfl, rfl⟩)
    (fun os started H enc _ => liftedReadersText os started H enc)
theorem readersText_card : Rows.FnExactReadersTextCardSaid :=
  Claim7.holds_tied_plain_at .later [] [.data, .data, .data] true Rows.fnExactReadersTextCard.stood.harness true
    readersText_holds (fun _ h => by cases h) (by kernel_rfl) (fun _ h => by cases h) fnExactReadersText_row_tie rfl ⟨rfl, rfl⟩ (by kernel_rfl) rfl
    (fun f fn hf hfn => by
      obtain rfl : f = 8 := Option.some.inj ((show Tryd.prog.funcNamed "loop.example/g01254/laws.FnExactReadersText" = some 8 by kernel_rfl).symm.trans hf) |>.symm
      obtain rfl : fn = Tryd.f8 := (Option.some.inj (Tryd.func8.symm.trans hfn)).symm
      exact ⟨by kernel_rfl, fun j t ht => by
        rw [Tryd.params8] at ht
        have hm : t = 58 := by
          rcases j with _ | j
          · simpa using ht.symm
          · simp at ht
        subst hm
        exact (show Tryd.prog.wantsStandIn 58 = false by kernel_rfl)⟩)
    (by kernel_rfl)
end Go.Proofs.YtpadjkgbeijkpaaDoor
