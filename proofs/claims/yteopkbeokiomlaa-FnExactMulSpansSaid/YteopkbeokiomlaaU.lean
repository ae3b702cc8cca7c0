/- WALKS: AddSpans, SubSpans, WidthOf, InSpan, of the program and of the reference. -/
import Derived.Test.YteopkbeokiomlaaT
namespace Go.Proofs.Yteopkbeokiomlaa
open Go.RowKit Go.Sort

set_option maxRecDepth 20000 in
set_option maxHeartbeats 400000 in
theorem sSpans_n1 (a b c d a' b' c' d' : Int) (w : World) (k1 k2 : Nat) (X1 : Hid (w.heap[k1]? = some (.cells #[.int .i64 a, .int .i64 b, .int .i64 c, .int .i64 d] 30))) (X2 : Hid (w.heap[k2]? = some (.cells #[.int .i64 a', .int .i64 b', .int .i64 c', .int .i64 d'] 30))) (h1 : spB a b c d = false) :
    Calls Try.prog 75 #[.pointer (some ⟨k1, 0, none⟩), .pointer (some ⟨k2, 0, none⟩)] w fun e w' => e = .returned (.int .i64 1) ∧ Gr w w' := by
  have h1 := hid h1
  go_enter Try.func75, Try.ntmps75
  obtain ⟨_, _, _, _⟩ := cells4 X1.out
  have _ := fz X1.out
  have _ := ltb X1.out
  obtain ⟨_, _, _, _⟩ := cells4 X2.out
  have _ := fz X2.out
  have _ := ltb X2.out
  go_wp2_with fail
  refine (sSpan_f _ _ _ _ _ _ X1.out h1.out).mono ?_
  rintro e w1 ⟨rfl, hg1⟩
  have x1_1 := hg1.keep X1.out
  have x1_2 := hg1.keep X2.out
  obtain ⟨_, _, _, _⟩ := cells4 x1_1
  have _ := fz x1_1
  have _ := ltb x1_1
  obtain ⟨_, _, _, _⟩ := cells4 x1_2
  have _ := fz x1_2
  have _ := ltb x1_2
  have X1_1 := hid x1_1; clear x1_1
  have X1_2 := hid x1_2; clear x1_2
  have G1 := hid (hg1)
  clear hg1
  go_wp2
  go_ret
  exact ⟨rfl, G1.out⟩
set_option maxRecDepth 20000 in
set_option maxHeartbeats 400000 in
theorem sSpans_n2 (a b c d a' b' c' d' : Int) (w : World) (k1 k2 : Nat) (X1 : Hid (w.heap[k1]? = some (.cells #[.int .i64 a, .int .i64 b, .int .i64 c, .int .i64 d] 30))) (X2 : Hid (w.heap[k2]? = some (.cells #[.int .i64 a', .int .i64 b', .int .i64 c', .int .i64 d'] 30))) (h1 : spB a b c d = true) (h2 : spB a' b' c' d' = false) :
    Calls Try.prog 75 #[.pointer (some ⟨k1, 0, none⟩), .pointer (some ⟨k2, 0, none⟩)] w fun e w' => e = .returned (.int .i64 1) ∧ Gr w w' := by
  have h1 := hid h1
  have h2 := hid h2
  go_enter Try.func75, Try.ntmps75
  obtain ⟨_, _, _, _⟩ := cells4 X1.out
  have _ := fz X1.out
  have _ := ltb X1.out
  obtain ⟨_, _, _, _⟩ := cells4 X2.out
  have _ := fz X2.out
  have _ := ltb X2.out
  go_wp2_with fail
  refine (sSpan_t _ _ _ _ _ _ X1.out h1.out).mono ?_
  rintro e w1 ⟨rfl, hg1⟩
  have x1_1 := hg1.keep X1.out
  have x1_2 := hg1.keep X2.out
  obtain ⟨_, _, _, _⟩ := cells4 x1_1
  have _ := fz x1_1
  have _ := ltb x1_1
  obtain ⟨_, _, _, _⟩ := cells4 x1_2
  have _ := fz x1_2
  have _ := ltb x1_2
  have X1_1 := hid x1_1; clear x1_1
  have X1_2 := hid x1_2; clear x1_2
  have G1 := hid (hg1)
  clear hg1
  go_wp2_with fail
  refine (sSpan_f _ _ _ _ _ _ X1_2.out h2.out).mono ?_
  rintro e w2 ⟨rfl, hg2⟩
  have x2_1 := hg2.keep X1_1.out
  have x2_2 := hg2.keep X1_2.out
  obtain ⟨_, _, _, _⟩ := cells4 x2_1
  have _ := fz x2_1
  have _ := ltb x2_1
  obtain ⟨_, _, _, _⟩ := cells4 x2_2
  have _ := fz x2_2
  have _ := ltb x2_2
  have X2_1 := hid x2_1; clear x2_1
  have X2_2 := hid x2_2; clear x2_2
  have G2 := hid (G1.out.trans hg2)
  clear hg2
  go_wp2
  go_ret
  exact ⟨rfl, G2.out⟩
set_option maxRecDepth 20000 in
set_option maxHeartbeats 400000 in
theorem sSpans_yes (a b c d a' b' c' d' : Int) (w : World) (k1 k2 : Nat) (X1 : Hid (w.heap[k1]? = some (.cells #[.int .i64 a, .int .i64 b, .int .i64 c, .int .i64 d] 30))) (X2 : Hid (w.heap[k2]? = some (.cells #[.int .i64 a', .int .i64 b', .int .i64 c', .int .i64 d'] 30))) (h1 : spB a b c d = true) (h2 : spB a' b' c' d' = true) :
    Calls Try.prog 75 #[.pointer (some ⟨k1, 0, none⟩), .pointer (some ⟨k2, 0, none⟩)] w fun e w' => e = .returned (.int .i64 0) ∧ Gr w w' := by
  have h1 := hid h1
  have h2 := hid h2
  go_enter Try.func75, Try.ntmps75
  obtain ⟨_, _, _, _⟩ := cells4 X1.out
  have _ := fz X1.out
  have _ := ltb X1.out
  obtain ⟨_, _, _, _⟩ := cells4 X2.out
  have _ := fz X2.out
  have _ := ltb X2.out
  go_wp2_with fail
  refine (sSpan_t _ _ _ _ _ _ X1.out h1.out).mono ?_
  rintro e w1 ⟨rfl, hg1⟩
  have x1_1 := hg1.keep X1.out
  have x1_2 := hg1.keep X2.out
  obtain ⟨_, _, _, _⟩ := cells4 x1_1
  have _ := fz x1_1
  have _ := ltb x1_1
  obtain ⟨_, _, _, _⟩ := cells4 x1_2
  have _ := fz x1_2
  have _ := ltb x1_2
  have X1_1 := hid x1_1; clear x1_1
  have X1_2 := hid x1_2; clear x1_2
  have G1 := hid (hg1)
  clear hg1
  go_wp2_with fail
  refine (sSpan_t _ _ _ _ _ _ X1_2.out h2.out).mono ?_
  rintro e w2 ⟨rfl, hg2⟩
  have x2_1 := hg2.keep X1_1.out
  have x2_2 := hg2.keep X1_2.out
  obtain ⟨_, _, _, _⟩ := cells4 x2_1
  have _ := fz x2_1
  have _ := ltb x2_1
  obtain ⟨_, _, _, _⟩ := cells4 x2_2
  have _ := fz x2_2
  have _ := ltb x2_2
  have X2_1 := hid x2_1; clear x2_1
  have X2_2 := hid x2_2; clear x2_2
  have G2 := hid (G1.out.trans hg2)
  clear hg2
  go_wp2
  go_ret
  exact ⟨rfl, G2.out⟩
theorem sSpans_no (a b c d a' b' c' d' : Int) (w : World) (k1 k2 : Nat) (X1 : Hid (w.heap[k1]? = some (.cells #[.int .i64 a, .int .i64 b, .int .i64 c, .int .i64 d] 30))) (X2 : Hid (w.heap[k2]? = some (.cells #[.int .i64 a', .int .i64 b', .int .i64 c', .int .i64 d'] 30))) (h : (spB a b c d && spB a' b' c' d') = false) :
    Calls Try.prog 75 #[.pointer (some ⟨k1, 0, none⟩), .pointer (some ⟨k2, 0, none⟩)] w fun e w' => e = .returned (.int .i64 1) ∧ Gr w w' := by
  cases h1 : spB a b c d with
  | false => exact sSpans_n1 _ _ _ _ _ _ _ _ w k1 k2 X1 X2 h1
  | true => exact sSpans_n2 _ _ _ _ _ _ _ _ w k1 k2 X1 X2 h1 (by simpa [h1] using h)
theorem okB_neg {p q : Int} (h : okB p q = true) : okB (-p) q = true := by
  rw [okB_iff] at *
  unfold Ok at *
  have e : Int.gcd (-p) q = Int.gcd p q := by simp [Int.gcd]
  omega
end Go.Proofs.Yteopkbeokiomlaa
