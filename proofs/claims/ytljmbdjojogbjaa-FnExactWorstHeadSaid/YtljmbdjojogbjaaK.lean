/- WALKS: fractions that are made of numbers. -/
import Derived.Test.YtljmbdjojogbjaaH
namespace Go.Proofs.Ytljmbdjojogbjaa
open Go.RowKit Go.Sort

/-! ### MakeFrac -/
set_option maxRecDepth 20000 in
set_option maxHeartbeats 400000 in
theorem cmake_ok (p q : Int) (w : World) (b c : Nat) (T : TypeId) (x : w.heap[b]? = some (.cells #[.int .i64 p] T)) (y : w.heap[c]? = some (.cells #[.int .i64 q] T))
    (hq : q ≠ 0) (p1 : -1000000000000000000 ≤ p) (p2 : p ≤ 1000000000000000000) (q1 : -1000000000000000000 ≤ q) (q2 : q ≤ 1000000000000000000) (hk : okB (redP p q) (redQ p q) = true) :
    Calls Try.prog 69 #[.pointer (some ⟨b, 0, none⟩), .pointer (some ⟨c, 0, none⟩)] w fun e w' => e = .returned (fr (redP p q) (redQ p q)) ∧ Gr w w' := by
  have K := hid hk; clear hk
  have x' := (Gr.alloc w (.cells #[.int .i64 0, .int .i64 0] 41)).keep x
  have y' := (Gr.alloc w (.cells #[.int .i64 0, .int .i64 0] 41)).keep y
  have _ := cells1 x'
  have _ := cells1 y'
  clear x y x' y'
  go_enter Try.func69, Try.ntmps69
  go_wp2_with (go_at_call 70; refine (low_ok _ _ _ hq (by omega) (by omega) (by omega) (by omega) K.out).mono ?_; rintro e w1 ⟨rfl, hg1⟩; obtain ⟨x2, _, G1⟩ := alloc1 hg1; obtain ⟨_, _⟩ := cells2 x2; have _ := fz x2; have G1 := hid G1; clear hg1 x2)
  refine bodyPost_ret (v := fr (redP p q) (redQ p q)) (by simp [results, Try.results69, go_sem, *]) rfl ⟨rfl, ?_⟩
  exact (G1.out.setCell (by simp) _).setCell (by simp) _
set_option maxRecDepth 20000 in
set_option maxHeartbeats 400000 in
theorem cmake_bad (p q : Int) (w : World) (b c : Nat) (T : TypeId) (x : w.heap[b]? = some (.cells #[.int .i64 p] T)) (y : w.heap[c]? = some (.cells #[.int .i64 q] T))
    (hq : q ≠ 0) (p1 : -1000000000000000000 ≤ p) (p2 : p ≤ 1000000000000000000) (q1 : -1000000000000000000 ≤ q) (q2 : q ≤ 1000000000000000000) (hk : okB (redP p q) (redQ p q) = false) :
    Calls Try.prog 69 #[.pointer (some ⟨b, 0, none⟩), .pointer (some ⟨c, 0, none⟩)] w fun e w' => (∃ x y, e = .panicked [{ v := .iface 102 (fr x y), recovered := false }]) ∧ Gr w w' := by
  have K := hid hk; clear hk
  have x' := (Gr.alloc w (.cells #[.int .i64 0, .int .i64 0] 41)).keep x
  have y' := (Gr.alloc w (.cells #[.int .i64 0, .int .i64 0] 41)).keep y
  have _ := cells1 x'
  have _ := cells1 y'
  clear x y x' y'
  go_enter Try.func69, Try.ntmps69
  go_wp2_with (go_at_call 70; refine (low_bad _ _ _ hq (by omega) (by omega) (by omega) (by omega) K.out).mono ?_; rintro e w1 ⟨⟨x, y, rfl⟩, hg1⟩)
  exact ⟨rfl, ⟨x, y, rfl⟩, (Gr.alloc _ _).trans hg1⟩
end Go.Proofs.Ytljmbdjojogbjaa
