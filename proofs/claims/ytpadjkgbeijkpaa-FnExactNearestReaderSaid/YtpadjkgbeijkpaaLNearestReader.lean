/- The law FnExactNearestReader of the laws package returns true for every slice of readers, every slice of values and every slice of readings, valid or not; they read behind the call as before it. No condition. -/
import Derived.Test.YtpadjkgbeijkpaaRows
import Derived.Test.YtpadjkgbeijkpaaWq
import Derived.Test.YtpadjkgbeijkpaaRh
import Derived.Test.YtpadjkgbeijkpaaRe
import Derived.Test.YtpadjkgbeijkpaaRf
import Derived.Test.YtpadjkgbeijkpaaRj
import Derived.Test.YtpadjkgbeijkpaaFu
import Derived.Test.YtpadjkgbeijkpaaFacts
import Derived.ProofKit
import Derived.Carry
import Derived.Lib.SmallJoins
namespace Go.Proofs.Ytpadjkgbeijkpaa
open Go.RowKit Go.Sort

set_option maxHeartbeats 400000 in
theorem szNr_yes (A : Option Addr) (n cap : Nat) (L : Int) (w : World) (h : (n : Int) ≤ L) (l1 : L ≤ 1048576) :
    Calls Try.prog 9 #[.slice A n cap, .int .i64 L] w fun e w' => e = .returned (.int .i64 (L - (n : Int))) ∧ Gr w w' := by
  go_enter Try.func9, Try.ntmps9
  go_wp2
  go_ret
  exact ⟨rfl, Gr.refl _⟩
set_option maxHeartbeats 400000 in
theorem szNr_no (A : Option Addr) (n cap : Nat) (L : Int) (w : World) (h : L < (n : Int)) (h2 : n ≤ 9223372036854775807) (l0 : 0 ≤ L) (l1 : L ≤ 1048576) :
    Calls Try.prog 9 #[.slice A n cap, .int .i64 L] w fun e w' => e = .returned (.int .i64 (-1)) ∧ Gr w w' := by
  go_enter Try.func9, Try.ntmps9
  go_wp2
  go_ret
  exact ⟨rfl, Gr.refl _⟩
set_option maxRecDepth 20000 in
set_option maxHeartbeats 4000000 in
theorem lawNearestReader (A B F : Option Addr) (cap capB capF : Nat) (xs : List Rqv) (fs : List (Int × Int)) (ns : List Int) (r0 r1 C q0 : Int) (w : World) (hr : RawRq w (.slice A xs.length cap) xs) (hrF : RawF w (.slice F fs.length capF) fs) (hrB : RawI w (.slice B ns.length capB) ns) (hn : xs.length ≤ 1048576) (hf : fs.length ≤ 1048576) (hm : ns.length ≤ 1048576) (hmax : xs.length ≤ 9223372036854775807) (hz : ∀ x ∈ xs, x.nm.size ≤ 9223372036854775807) (hq : szToR xs 1048576 = q0) (hp : 0 ≤ q0) (hq1 : q0 ≤ 1048576) (hfq : (fs.length : Int) ≤ q0)
    (hs : ∀ (g h : Nat) (B : Option Addr) (c ch d : Nat) (w : World), Hid (RdRq w (some ⟨g, 0, none⟩) xs) → Hid (RdF w (some ⟨h, 0, none⟩) fs) → Hid (RdI w B ns) → Calls Try.prog 29 #[.slice (some ⟨g, 0, none⟩) xs.length c, .slice (some ⟨h, 0, none⟩) fs.length ch, .slice B ns.length d] w fun e w' => e = .returned (.tuple #[.int .i64 r0, .int .i64 r1, .int .i64 C]) ∧ Gr w w')
    (hi : ∀ (g h : Nat) (B : Option Addr) (c ch d : Nat) (w : World), Hid (RdRq w (some ⟨g, 0, none⟩) xs) → Hid (RdF w (some ⟨h, 0, none⟩) fs) → Hid (RdI w B ns) → Calls Try.prog 30 #[.slice (some ⟨g, 0, none⟩) xs.length c, .slice (some ⟨h, 0, none⟩) fs.length ch, .slice B ns.length d] w fun e w' => e = .returned (.tuple #[.int .i64 r0, .int .i64 r1, .int .i64 C]) ∧ Gr w w') :
    Calls Try.prog 6 #[.slice A xs.length cap, .slice F fs.length capF, .slice B ns.length capB] w fun x w' => x = .returned (.bool true) ∧ Gr w w' := by
  have HS := hid hs; have HI := hid hi; have HR := hid hr; have HRB := hid hrB; have HRF := hid hrF
  have HSZ := hid fun (w : World) (h : RawRq w (.slice A xs.length cap) xs) => szRq_is _ A cap xs 1048576 q0 w rfl h hmax hz (by omega) (by omega) hq
  have HSF := hid fun (w : World) => szNr_yes F fs.length capF q0 w hfq hq1
  have hpos : 0 ≤ q0 - (fs.length : Int) := by omega
  clear hs hi hr hrB hrF hz hq hmax hfq
  go_enter Try.func6, Try.ntmps6
  go_wp2_with fail
  refine (HSZ.out _ HR.out).mono ?_
  rintro e w1 ⟨rfl, hg1⟩
  have G1 := hid hg1; clear hg1
  go_wp2_with fail
  refine (HSF.out _).mono ?_
  rintro e w2 ⟨rfl, hg2⟩
  have G2 := hid (G1.out.trans hg2); clear hg2
  go_wp2_with fail
  refine (toReaderS_any _ xs _ hn (HR.out.keep G2.out)).mono ?_
  rintro e w3 ⟨rfl, xx, hg⟩
  have XA3 := hid xx; have G3 := hid (G2.out.trans hg); clear xx hg
  go_wp2_with fail
  refine (toFracS_any _ fs _ hf (HRF.out.keep G3.out)).mono ?_
  rintro e w4 ⟨rfl, xx, hg⟩
  have FA4 := hid xx; have XA4 := hid (hg.keep XA3.out); have G4 := hid (G3.out.trans hg); clear xx hg XA3
  go_wp2_with fail
  refine (toInt64S_any _ ns _ hm (HRB.out.keep G4.out)).mono ?_
  rintro e w5 ⟨rfl, xx, hg⟩
  have YA5 := hid xx; have XA5 := hid (hg.keep XA4.out); have FA5 := hid (hg.keep FA4.out); have G5 := hid (G4.out.trans hg); clear xx hg XA4 FA4
  go_wp2_with fail
  refine (HS.out _ _ _ _ _ _ _ (hid (RdRq.of_block XA5.out)) (hid (RdF.of_block FA5.out)) (hid (RdI.of_block YA5.out))).mono ?_
  rintro e w6 ⟨rfl, hg⟩
  have G6 := hid (G5.out.trans hg); clear hg XA5 FA5 YA5
  go_wp2_with fail
  refine (toReaderS_any _ xs _ hn (HR.out.keep G6.out)).mono ?_
  rintro e w7 ⟨rfl, xx, hg⟩
  have XA7 := hid xx; have G7 := hid (G6.out.trans hg); clear xx hg
  go_wp2_with fail
  refine (toFracS_any _ fs _ hf (HRF.out.keep G7.out)).mono ?_
  rintro e w8 ⟨rfl, xx, hg⟩
  have FA8 := hid xx; have XA8 := hid (hg.keep XA7.out); have G8 := hid (G7.out.trans hg); clear xx hg XA7
  go_wp2_with fail
  refine (toInt64S_any _ ns _ hm (HRB.out.keep G8.out)).mono ?_
  rintro e w9 ⟨rfl, xx, hg⟩
  have YA9 := hid xx; have XA9 := hid (hg.keep XA8.out); have FA9 := hid (hg.keep FA8.out); have G9 := hid (G8.out.trans hg); clear xx hg XA8 FA8
  go_wp2_with fail
  refine (HI.out _ _ _ _ _ _ _ (hid (RdRq.of_block XA9.out)) (hid (RdF.of_block FA9.out)) (hid (RdI.of_block YA9.out))).mono ?_
  rintro e w10 ⟨rfl, hg⟩
  have XA10 := hid (hg.keep XA9.out); have FA10 := hid (hg.keep FA9.out); have YA10 := hid (hg.keep YA9.out)
  have G10 := hid (G9.out.trans hg); clear hg XA9 FA9 YA9
  go_wp2_with fail
  refine (toReaderS_any _ xs _ hn (HR.out.keep G10.out)).mono ?_
  rintro e w11 ⟨rfl, xx, hg⟩
  have XN := hid xx; have XA11 := hid (hg.keep XA10.out); have FA11 := hid (hg.keep FA10.out); have YA11 := hid (hg.keep YA10.out); have G11 := hid (G10.out.trans hg); clear xx hg XA10 FA10 YA10
  go_wp2_with fail
  refine (eqRqq_any _ _ _ _ xs _ (hid (RdRq.of_block XA11.out)) (hid (RdRq.of_block XN.out)) hn).mono ?_
  rintro e w12 ⟨rfl, hg⟩
  have FA12 := hid (hg.keep FA11.out); have YA12 := hid (hg.keep YA11.out); have G12 := hid (G11.out.trans hg); clear hg FA11 YA11 XA11 XN
  go_wp2_with fail
  refine (toFracS_any _ fs _ hf (HRF.out.keep G12.out)).mono ?_
  rintro e w13 ⟨rfl, xx, hg⟩
  have FN := hid xx; have FA13 := hid (hg.keep FA12.out); have YA13 := hid (hg.keep YA12.out); have G13 := hid (G12.out.trans hg); clear xx hg FA12 YA12
  go_wp2_with fail
  refine (eqFracS_any _ _ fs _ _ _ (hid FA13.out) (hid FN.out) hf).mono ?_
  rintro e w14 ⟨rfl, hg⟩
  have YA14 := hid (hg.keep YA13.out); have G14 := hid (G13.out.trans hg); clear hg YA13 FA13 FN
  go_wp2_with fail
  refine (toInt64S_any _ ns _ hm (HRB.out.keep G14.out)).mono ?_
  rintro e w15 ⟨rfl, xx, hg⟩
  have YN := hid xx; have YA15 := hid (hg.keep YA14.out); have G15 := hid (G14.out.trans hg); clear xx hg YA14
  go_wp2_with fail
  refine (eqInt64S_any _ _ _ _ ns _ (hid (RdI.of_block YA15.out)) (hid (RdI.of_block YN.out)) hm).mono ?_
  rintro e w16 ⟨rfl, hg⟩
  have G16 := hid (G15.out.trans hg); clear hg
  go_wp2_with fail
  go_ret
  exact ⟨rfl, G16.out⟩
set_option maxRecDepth 20000 in
set_option maxHeartbeats 400000 in
theorem lawNearestReader_big (A B F : Option Addr) (cap capB m l capF : Nat) (xs : List Rqv) (w : World) (hr : RawRq w (.slice A xs.length cap) xs) (hm : m ≤ 1048576) (hmax : xs.length ≤ 9223372036854775807) (hz : ∀ x ∈ xs, x.nm.size ≤ 9223372036854775807) (hq : szToR xs 1048576 = -1) :
    Calls Try.prog 6 #[.slice A xs.length cap, .slice F l capF, .slice B m capB] w fun e w' => e = .returned (.bool true) ∧ Gr w w' := by
  have HSZ := hid fun (w : World) (h : RawRq w (.slice A xs.length cap) xs) => szRq_is _ A cap xs 1048576 (-1) w rfl h hmax hz (by omega) (by omega) hq
  have HR := hid hr
  clear hz hq hmax hr
  go_enter Try.func6, Try.ntmps6
  go_wp2_with fail
  refine (HSZ.out _ HR.out).mono ?_
  rintro e w1 ⟨rfl, hg1⟩
  have G1 := hid hg1; clear hg1
  go_wp2_with fail
  go_ret
  exact ⟨rfl, G1.out⟩
set_option maxRecDepth 20000 in
set_option maxHeartbeats 400000 in
theorem lawNearestReader_big1 (A B F : Option Addr) (cap capB m l capF : Nat) (xs : List Rqv) (q0 : Int) (w : World) (hr : RawRq w (.slice A xs.length cap) xs) (hm : m ≤ 1048576) (hmax : xs.length ≤ 9223372036854775807) (hz : ∀ x ∈ xs, x.nm.size ≤ 9223372036854775807) (hq : szToR xs 1048576 = q0) (hp : 0 ≤ q0) (hq1 : q0 ≤ 1048576) (hl : q0 < (l : Int)) (hl2 : l ≤ 9223372036854775807) :
    Calls Try.prog 6 #[.slice A xs.length cap, .slice F l capF, .slice B m capB] w fun e w' => e = .returned (.bool true) ∧ Gr w w' := by
  have HSZ := hid fun (w : World) (h : RawRq w (.slice A xs.length cap) xs) => szRq_is _ A cap xs 1048576 q0 w rfl h hmax hz (by omega) (by omega) hq
  have HSF := hid fun (w : World) => szNr_no F l capF q0 w hl hl2 hp hq1
  have HR := hid hr
  clear hz hq hmax hr hl
  go_enter Try.func6, Try.ntmps6
  go_wp2_with fail
  refine (HSZ.out _ HR.out).mono ?_
  rintro e w1 ⟨rfl, hg1⟩
  have G1 := hid hg1; clear hg1
  go_wp2_with fail
  refine (HSF.out _).mono ?_
  rintro e w2 ⟨rfl, hg2⟩
  have G2 := hid (G1.out.trans hg2); clear hg2
  go_wp2_with fail
  go_ret
  exact ⟨rfl, G2.out⟩
set_option maxRecDepth 20000 in
set_option maxHeartbeats 400000 in
theorem lawNearestReader_big2 (A B F : Option Addr) (n cap m capB l capF : Nat) (w : World) (h : 1048576 < m) (h2 : m ≤ 9223372036854775807) :
    Calls Try.prog 6 #[.slice A n cap, .slice F l capF, .slice B m capB] w fun e w' => e = .returned (.bool true) ∧ Gr w w' := by
  go_enter Try.func6, Try.ntmps6
  go_wp2
  go_ret
  exact ⟨rfl, Gr.refl _⟩
open Go.ChangeShapes Go.WideShapes Go.ChangeAt Go.Joins
theorem laidOutNearestReader : laidOutB Try.prog = true := by as_aux_lemma => kernel_rfl
set_option maxRecDepth 100000 in
theorem liftedNearestReader (os : Os) (started : os.Started) (H : Type) (enc : TypeId × Value → H) :
    ReturnsInHanded {} Try.checked os 6 .any (Rows.fnExactNearestReaderSpec.pre6 enc Try.prog Try.f6 Rows.fnExactNearestReaderRow.domain false) (Rows.fnExactNearestReaderSpec.post enc Try.prog Try.f6 false true false false) := by
  refine returnsInHanded_of_change (C := Try.checked) ownNone started (by kernel_rfl) Try.func6
    (ChangeSpec.witness6 (enc := enc) (C := Try.checked) false ⟨#[], #[.slice none 0 0, .slice none 0 0, .slice none 0 0], []⟩ 8 (by kernel_rfl) (by kernel_rfl) (by kernel_rfl) (by kernel_rfl)) ?_
  intro W base args ds gs before hval0 hW _ _
  have hval : ∀ (j : Nat) t v, Try.f6.params[j]? = some t → args[j]? = some v → Value.okWide Try.prog W .any base t v := hval0
  have hW' := hW
  obtain ⟨p, q, hA0, hV, rfl, _, _⟩ := hW
  have hA : DataW.TrodAll enc Try.prog W 0 (fun _ => true) true Try.f6.params.toList args.toList ds p := hA0
  rw [Try.params6] at hA hval
  obtain ⟨u0, u1, u2, d0, d1, d2, p0, p1, p2, rfl, rfl, rfl, h0, h1, h2⟩ := trodAll_three hA
  obtain ⟨rfl, rfl⟩ := trodVars_none hV
  clear hA0 hval0
  simp only [List.append_nil] at hW'
  have hlt : ∀ x ∈ p0 ++ (p1 ++ p2), x.block < W.heap.size := fun x hx => by simpa using hW'.lt x (by simpa using hx)
  have done : ∀ (e : Ending) (W' : World), e = .returned (.bool true) ∧ Gr W W' → ∃ v, e = .returned v ∧ Rows.fnExactNearestReaderSpec.post enc Try.prog Try.f6 false true false false W #[u0, u1, u2] v W' := fun e W' ⟨he, hg⟩ => by
    subst he
    exact ⟨_, rfl, _, _, _, [], _, [], hW', trodAll_mk1 (shut_bool Try.underlying4 _), trodAll_mk3 (Below.trod laidOutNearestReader (by kernel_rfl) (of_decide_eq_true (by kernel_rfl)) h0 hg.below (fun x hx => hlt x (by simp [hx]))) (Below.trod laidOutNearestReader (by kernel_rfl) (of_decide_eq_true (by kernel_rfl)) h1 hg.below (fun x hx => hlt x (by simp [hx]))) (Below.trod laidOutNearestReader (by kernel_rfl) (of_decide_eq_true (by kernel_rfl)) h2 hg.below (fun x hx => hlt x (by simp [hx]))), rfl, hg.below.frame _, fun h => by cases h⟩
  obtain ⟨A, m, cap, rfl⟩ := okWide_slice Try.underlying49 (hval 0 49 u0 rfl rfl)
  obtain ⟨F, k, capF, rfl⟩ := okWide_slice Try.underlying27 (hval 1 27 u1 rfl rfl)
  obtain ⟨B, l, capB, rfl⟩ := okWide_slice Try.underlying42 (hval 2 42 u2 rfl rfl)
  obtain ⟨hmax, xs, rfl, hraw, hs⟩ := open_rdrs h0
  obtain ⟨hmaxF, fs, rfl, hrawF⟩ := open_fracs h1
  obtain ⟨hmaxB, ns, rfl, hrawB⟩ := open_rawI h2
  have hz : ∀ x ∈ xs, x.nm.size ≤ 9223372036854775807 := fun x hx => by have := (hs x hx).1; unfold maxLen at this; omega
  have hwf : xs.all wfR = true := List.all_eq_true.2 fun x hx => (hs x hx).2
  by_cases hm : ns.length ≤ 1048576
  · obtain ⟨q0, hq0⟩ : ∃ q, szToR xs 1048576 = q := ⟨_, rfl⟩
    obtain ⟨b0, b1, b2⟩ := szToR_bd xs 1048576 q0 (by omega) hq0
    by_cases hp : 0 ≤ q0
    · have hn : xs.length ≤ 1048576 := by have := b2 hp; omega
      by_cases hf : (fs.length : Int) ≤ q0
      · obtain ⟨r0, r1, C, hS, hI⟩ := bothNearestReader xs fs ns hn (by omega) hm hwf
        exact (lawNearestReader A B F cap capB capF xs fs ns r0 r1 C q0 W hraw hrawF hrawB hn (by omega) hm hmax hz hq0 hp b1 hf hS hI).mono done
      · exact (lawNearestReader_big1 A B F cap capB ns.length fs.length capF xs q0 W hraw hm hmax hz hq0 hp b1 (by omega) hmaxF).mono done
    · exact (lawNearestReader_big A B F cap capB ns.length fs.length capF xs W hraw hm hmax hz (by omega)).mono done
  · exact (lawNearestReader_big2 A B F xs.length cap ns.length capB fs.length capF W (by omega) hmaxB).mono done

set_option maxHeartbeats 2000000 in
theorem closedNearestReader : joinedFacts Try.pinned.checked.prog 6 Try.f6 Rows.fnExactNearestReaderSpec Rows.fnExactNearestReaderRow = true := by
  unfold joinedFacts
  refine Bool.and_eq_true_iff.2 ⟨?_, by as_aux_lemma => kernel_rfl⟩
  refine Bool.and_eq_true_iff.2 ⟨?_, by as_aux_lemma => kernel_rfl⟩
  refine Bool.and_eq_true_iff.2 ⟨?_, by as_aux_lemma => kernel_rfl⟩
  refine Bool.and_eq_true_iff.2 ⟨?_, by as_aux_lemma => kernel_rfl⟩
  refine Bool.and_eq_true_iff.2 ⟨?_, by rw [fact_make]; rfl⟩
  refine Bool.and_eq_true_iff.2 ⟨?_, by rw [fact_final]; rfl⟩
  refine Bool.and_eq_true_iff.2 ⟨?_, fact_enters⟩
  refine Bool.and_eq_true_iff.2 ⟨?_, by as_aux_lemma => kernel_rfl⟩
  refine Bool.and_eq_true_iff.2 ⟨?_, by as_aux_lemma => kernel_rfl⟩
  refine Bool.and_eq_true_iff.2 ⟨?_, by as_aux_lemma => kernel_rfl⟩
  refine Bool.and_eq_true_iff.2 ⟨?_, by as_aux_lemma => kernel_rfl⟩
  refine Bool.and_eq_true_iff.2 ⟨?_, by as_aux_lemma => kernel_rfl⟩
  refine Bool.and_eq_true_iff.2 ⟨?_, by as_aux_lemma => kernel_rfl⟩
  refine Bool.and_eq_true_iff.2 ⟨?_, by as_aux_lemma => kernel_rfl⟩
  refine Bool.and_eq_true_iff.2 ⟨?_, by as_aux_lemma => kernel_rfl⟩
  refine Bool.and_eq_true_iff.2 ⟨?_, by as_aux_lemma => kernel_rfl⟩
  refine Bool.and_eq_true_iff.2 ⟨?_, by as_aux_lemma => kernel_rfl⟩
  refine Bool.and_eq_true_iff.2 ⟨?_, by as_aux_lemma => kernel_rfl⟩
  refine Bool.and_eq_true_iff.2 ⟨?_, by as_aux_lemma => kernel_rfl⟩
  refine Bool.and_eq_true_iff.2 ⟨?_, by as_aux_lemma => kernel_rfl⟩
  refine Bool.and_eq_true_iff.2 ⟨?_, by as_aux_lemma => kernel_rfl⟩
  refine Bool.and_eq_true_iff.2 ⟨?_, by as_aux_lemma => kernel_rfl⟩
  refine Bool.and_eq_true_iff.2 ⟨?_, by as_aux_lemma => kernel_rfl⟩
  refine Bool.and_eq_true_iff.2 ⟨?_, by as_aux_lemma => kernel_rfl⟩
  refine Bool.and_eq_true_iff.2 ⟨?_, by as_aux_lemma => kernel_rfl⟩
  refine Bool.and_eq_true_iff.2 ⟨?_, by as_aux_lemma => kernel_rfl⟩
  refine Bool.and_eq_true_iff.2 ⟨?_, by as_aux_lemma => kernel_rfl⟩
  refine Bool.and_eq_true_iff.2 ⟨?_, by as_aux_lemma => kernel_rfl⟩
  refine Bool.and_eq_true_iff.2 ⟨?_, by as_aux_lemma => kernel_rfl⟩
  refine Bool.and_eq_true_iff.2 ⟨?_, by as_aux_lemma => kernel_rfl⟩
  as_aux_lemma => kernel_rfl
theorem nearestReader_holds : Rows.FnExactNearestReaderSaid :=
  OpenClaim.holds_of_wide 6 Try.f6 rfl rfl rfl rfl rfl rfl rfl ⟨rfl, rfl, rfl, rfl, rfl⟩ rfl rfl rfl rfl rfl (by as_aux_lemma => kernel_rfl) Try.func6 closedNearestReader
    (of_decide_eq_true (by as_aux_lemma => kernel_rfl)) (by unfold Func.isWrapper; rw [if_neg (by decide +kernel)]; exact ⟨rfl, rfl⟩)
    (fun os started H enc _ => liftedNearestReader os started H enc)
#print axioms nearestReader_holds
end Go.Proofs.Ytpadjkgbeijkpaa
