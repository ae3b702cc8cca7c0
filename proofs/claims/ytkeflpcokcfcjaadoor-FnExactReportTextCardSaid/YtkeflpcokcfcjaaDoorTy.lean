/- TEXTS of spans. -/
import Derived.Test.YtkeflpcokcfcjaaDoorTx
namespace Go.Proofs.YtkeflpcokcfcjaaDoor
open Go.RowKit Go.Sort

/-- The text of a span. -/
def txtS (a b c d : Int) : ByteArray := txtF a b ++ ⟨#[46, 46]⟩ ++ txtF c d
theorem spB_oks {a b c d : Int} (h : spB a b c d = true) : okB a b = true ∧ okB c d = true := by
  unfold spB at h
  simp at h
  exact ⟨h.1.1, h.1.2⟩
theorem ba_size (a b : ByteArray) : (a ++ b).size = a.size + b.size := ByteArray.size_append
theorem txtF_size {p q : Int} (h : okB p q = true) : (txtF p q).size ≤ 43 := by
  obtain ⟨h1, h2, h3, h4⟩ := okB_bd h
  have e1 : (txt q).size ≤ 21 := txt_size (by omega) (by omega)
  have e2 : (txt p).size ≤ 21 := txt_size (by omega) (by omega)
  unfold txtF
  split
  · omega
  · rw [ba_size, ba_size]
    have : (⟨#[47]⟩ : ByteArray).size = 1 := rfl
    omega
set_option maxRecDepth 20000 in
set_option maxHeartbeats 2000000 in
theorem iSpanText (a b c d : Int) (w : World) (T : Hid (Pow w)) (hk : spB a b c d = true) : Calls Tryd.prog 41 #[sp a b c d] w fun e w' => e = .returned (.string (txtS a b c d)) ∧ Gr w w' := by
  have H1 := hid (spB_oks hk).1; have H2 := hid (spB_oks hk).2
  have HK := hid hk; clear hk
  have s1 := txtF_size H1.out; have s2 := txtF_size H2.out
  have HV : Hid (txtS a b c d = txtF a b ++ ⟨#[46, 46]⟩ ++ txtF c d) := hid rfl
  go_enter Tryd.func41, Tryd.ntmps41
  go_wp2_with fail
  refine (iSpan_t _ _ _ _ _ HK.out).mono ?_
  rintro e w1 ⟨rfl, hg1⟩
  obtain ⟨x1_0, hz1, g1⟩ := alloc1 hg1
  obtain ⟨_, _, _, _⟩ := cells4 x1_0
  have _ := fz x1_0
  have _ := ltb x1_0
  have X1_0 := hid x1_0; clear x1_0
  have G1 := hid (g1)
  clear hg1 g1
  go_wp2_with fail
  go_region_with (first | (go_at_call_of 22 (Value.agg #[Value.int IntKind.i64 a, Value.int IntKind.i64 b]); refine (iFracText a b _ (hid (T.out.keep (G1.out.trans (Gr.drew _)))) H1.out).mono ?_; rintro e w2 ⟨rfl, hg2⟩; have G2 := hid ((G1.out.trans (Gr.drew _)).trans hg2); obtain ⟨_, _, _, _⟩ := cells4 (((Gr.drew _).trans hg2).keep X1_0.out); clear hg2) | (go_at_call_of 22 (Value.agg #[Value.int IntKind.i64 c, Value.int IntKind.i64 d]); refine (iFracText c d _ (hid (T.out.keep G2.out)) H2.out).mono ?_; rintro e w3 ⟨rfl, hg3⟩; have G3 := hid (G2.out.trans hg3); clear hg3))
  all_goals
    go_wp2
    go_ret
    exact ⟨by rw [HV.out]; rfl, G3.out⟩
set_option maxRecDepth 20000 in
set_option maxHeartbeats 1000000 in
theorem iSpanText_no (a b c d : Int) (w : World) (hk : spB a b c d = false) : Calls Tryd.prog 41 #[sp a b c d] w fun e w' => e = .returned (.string ⟨#[]⟩) ∧ Gr w w' := by
  go_enter Tryd.func41, Tryd.ntmps41
  go_wp2_with fail
  refine (iSpan_f _ _ _ _ _ hk).mono ?_
  rintro e w1 ⟨rfl, hg1⟩
  obtain ⟨x1_0, hz1, g1⟩ := alloc1 hg1
  obtain ⟨_, _, _, _⟩ := cells4 x1_0
  have _ := fz x1_0
  have _ := ltb x1_0
  have X1_0 := hid x1_0; clear x1_0
  have G1 := hid (g1)
  clear hg1 g1
  go_wp2
  go_ret
  exact ⟨rfl, G1.out⟩
set_option maxRecDepth 20000 in
set_option maxHeartbeats 2000000 in
theorem sSpanTx (a b c d : Int) (k : Nat) (w : World) (X : Hid (w.heap[k]? = some (.cells #[.int .i64 a, .int .i64 b, .int .i64 c, .int .i64 d] 49))) (hk : spB a b c d = true) : Calls Tryd.prog 66 #[.pointer (some ⟨k, 0, none⟩)] w fun e w' => e = .returned (.string (txtS a b c d)) ∧ Gr w w' := by
  have H1 := hid (spB_oks hk).1; have H2 := hid (spB_oks hk).2
  have s1 := txtF_size H1.out; have s2 := txtF_size H2.out
  have HV : Hid (txtS a b c d = txtF a b ++ ⟨#[46, 46]⟩ ++ txtF c d) := hid rfl
  clear hk
  obtain ⟨_, _, _, _⟩ := cells4 X.out
  go_enter Tryd.func66, Tryd.ntmps66
  go_wp2_with fail
  go_region_with (first | (go_at_call_of 46 (Value.agg #[Value.int IntKind.i64 a, Value.int IntKind.i64 b]); refine (sText a b _ H1.out).mono ?_; rintro e w2 ⟨rfl, hg2⟩; have G2 := hid ((Gr.drew _).trans hg2); obtain ⟨_, _, _, _⟩ := cells4 (G2.out.keep X.out); clear hg2) | (go_at_call_of 46 (Value.agg #[Value.int IntKind.i64 c, Value.int IntKind.i64 d]); refine (sText c d _ H2.out).mono ?_; rintro e w3 ⟨rfl, hg3⟩; have G3 := hid (G2.out.trans hg3); clear hg3))
  all_goals
    go_wp2
    go_ret
    exact ⟨by rw [HV.out]; rfl, G3.out⟩
end Go.Proofs.YtkeflpcokcfcjaaDoor
