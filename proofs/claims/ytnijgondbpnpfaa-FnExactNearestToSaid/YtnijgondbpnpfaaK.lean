/- WALKS: fractions that are made of numbers. -/
import Derived.Test.YtnijgondbpnpfaaH
namespace Go.Proofs.Ytnijgondbpnpfaa
open Go.RowKit Go.Sort

set_option maxHeartbeats 400000 in
theorem swhole1 (n : Int) (w : World) :
    Calls Try.prog 87 #[.int .i64 n] w fun e w' => e = .returned (fr n 1) ∧ Gr w w' := by
  go_enter Try.func87, Try.ntmps87
  go_wp2
  refine bodyPost_ret (v := fr n 1) (by simp [results, Try.results87, go_sem]) rfl ⟨rfl, ?_⟩
  exact Gr.alloc _ _
set_option maxHeartbeats 400000 in
theorem sWhole_yes (n : Int) (w : World) (hk : inB n (-1000000000) 1000000000 = true) :
    Calls Try.prog 31 #[.int .i64 n] w fun e w' => e = .returned (.tuple #[fr n 1, .int .i64 0]) ∧ Gr w w' := by
  go_enter Try.func31, Try.ntmps31
  go_wp2_with (first | (go_at_call 81; refine (in_any _ _ _ _).mono ?_; rintro e w1 ⟨rfl, rfl⟩) | (go_at_call 87; refine (swhole1 _ _).mono ?_; rintro e w1 ⟨rfl, hg1⟩; obtain ⟨x0, _, G1⟩ := alloc1 hg1; obtain ⟨_, _⟩ := cells2 x0; have _ := fz x0; have G1 := hid G1; clear hg1 x0))
  refine bodyPost_ret (v := .tuple #[fr n 1, .int .i64 0]) (by simp [results, Try.results31, go_sem, *]) rfl ⟨rfl, ?_⟩
  exact (G1.out.setCell (by simp) _).setCell (by simp) _
set_option maxHeartbeats 400000 in
theorem sWhole_no (n : Int) (w : World) (hk : inB n (-1000000000) 1000000000 = false) :
    Calls Try.prog 31 #[.int .i64 n] w fun e w' => e = .returned (.tuple #[fr 0 0, .int .i64 3]) ∧ Gr w w' := by
  go_enter Try.func31, Try.ntmps31
  go_wp2_with (go_at_call 81; refine (in_any _ _ _ _).mono ?_; rintro e w1 ⟨rfl, rfl⟩)
  refine bodyPost_ret (v := .tuple #[fr 0 0, .int .i64 3]) (by simp [results, Try.results31, go_sem]) rfl ⟨rfl, ?_⟩
  exact Gr.alloc _ _

set_option maxRecDepth 20000 in
set_option maxHeartbeats 400000 in
theorem cwhole_ok (n : Int) (w : World) (b : Nat) (T : TypeId) (x : w.heap[b]? = some (.cells #[.int .i64 n] T)) (h : gtB n 1000000000 = false) :
    Calls Try.prog 88 #[.pointer (some ⟨b, 0, none⟩)] w fun e w' => e = .returned (fr n 1) ∧ Gr w w' := by
  have K := hid h; clear h
  have y := (Gr.alloc w (.cells #[.int .i64 0, .int .i64 0] 25)).keep x
  have _ := cells1 y
  clear x y
  go_enter Try.func88, Try.ntmps88
  go_wp2_with (go_at_call 89; refine (fit_ok _ _ _ K.out (by decide)).mono ?_; rintro e w1 ⟨rfl, hg1⟩; obtain ⟨x2, _, G1⟩ := alloc1 hg1; obtain ⟨_, _⟩ := cells2 x2; have _ := fz x2; have G1 := hid G1; clear hg1 x2)
  refine bodyPost_ret (v := fr n 1) (by simp [results, Try.results88, go_sem, *]) rfl ⟨rfl, ?_⟩
  exact (G1.out.setCell (by simp) _).setCell (by simp) _
set_option maxRecDepth 20000 in
set_option maxHeartbeats 400000 in
theorem cwhole_bad (n : Int) (w : World) (b : Nat) (T : TypeId) (x : w.heap[b]? = some (.cells #[.int .i64 n] T)) (h : gtB n 1000000000 = true) :
    Calls Try.prog 88 #[.pointer (some ⟨b, 0, none⟩)] w fun e w' => (∃ x y, e = .panicked [{ v := .iface 103 (fr x y), recovered := false }]) ∧ Gr w w' := by
  have K := hid h; clear h
  have y := (Gr.alloc w (.cells #[.int .i64 0, .int .i64 0] 25)).keep x
  have _ := cells1 y
  clear x y
  go_enter Try.func88, Try.ntmps88
  go_wp2_with (go_at_call 89; refine (fit_bad _ _ _ (by rw [K.out]; rfl)).mono ?_; rintro e w1 ⟨rfl, hg1⟩)
  exact ⟨rfl, ⟨n, 1, rfl⟩, (Gr.alloc _ _).trans hg1⟩
set_option maxRecDepth 20000 in
set_option maxHeartbeats 400000 in
theorem iWhole_yes (n : Int) (w : World) (h : gtB n 1000000000 = false) :
    Calls Try.prog 32 #[.int .i64 n] w fun e w' => e = .returned (.tuple #[fr n 1, .int .i64 0]) ∧ Gr w w' := by
  have K := hid h; clear h
  go_enter Try.func32, Try.ntmps32
  go_wp2_with fail
  refine (told_ok_F 88 _ _ _ _ (fun _ => by kernel_rfl) (fun w' hg' => cwhole_ok n w' _ _ (alloc2 hg').1 K.out)).mono ?_
  rintro e w1 ⟨rfl, hg1⟩
  obtain ⟨_, x1, _, G1⟩ := alloc2 hg1
  obtain ⟨_, _⟩ := cells2 x1
  have _ := fz x1
  have G1 := hid G1
  clear hg1 x1
  go_wp2
  refine bodyPost_ret (v := .tuple #[fr n 1, .int .i64 0]) (by simp [results, Try.results32, go_sem, *]) rfl ⟨rfl, ?_⟩
  exact (G1.out.setCell (by simp) _).setCell (by simp) _
set_option maxRecDepth 20000 in
set_option maxHeartbeats 400000 in
theorem iWhole_no (n : Int) (w : World) (h : gtB n 1000000000 = true) :
    Calls Try.prog 32 #[.int .i64 n] w fun e w' => e = .returned (.tuple #[fr 0 0, .int .i64 3]) ∧ Gr w w' := by
  have K := hid h; clear h
  go_enter Try.func32, Try.ntmps32
  go_wp2_with fail
  refine (told_great_F 88 _ _ (fun _ => by kernel_rfl) (fun w' hg' => cwhole_bad n w' _ _ (alloc2 hg').1 K.out)).mono ?_
  rintro e w1 ⟨rfl, hg1⟩
  obtain ⟨_, x1, _, G1⟩ := alloc2 hg1
  obtain ⟨_, _⟩ := cells2 x1
  have _ := fz x1
  have G1 := hid G1
  clear hg1 x1
  go_wp2
  refine bodyPost_ret (v := .tuple #[fr 0 0, .int .i64 3]) (by simp [results, Try.results32, go_sem, *]) rfl ⟨rfl, ?_⟩
  exact (G1.out.setCell (by simp) _).setCell (by simp) _

/-! ### MakeFrac -/
set_option maxRecDepth 20000 in
set_option maxHeartbeats 400000 in
theorem cmake_ok (p q : Int) (w : World) (b c : Nat) (T : TypeId) (x : w.heap[b]? = some (.cells #[.int .i64 p] T)) (y : w.heap[c]? = some (.cells #[.int .i64 q] T))
    (hq : q ≠ 0) (p1 : -1000000000000000000 ≤ p) (p2 : p ≤ 1000000000000000000) (q1 : -1000000000000000000 ≤ q) (q2 : q ≤ 1000000000000000000) (hk : okB (redP p q) (redQ p q) = true) :
    Calls Try.prog 85 #[.pointer (some ⟨b, 0, none⟩), .pointer (some ⟨c, 0, none⟩)] w fun e w' => e = .returned (fr (redP p q) (redQ p q)) ∧ Gr w w' := by
  have K := hid hk; clear hk
  have x' := (Gr.alloc w (.cells #[.int .i64 0, .int .i64 0] 25)).keep x
  have y' := (Gr.alloc w (.cells #[.int .i64 0, .int .i64 0] 25)).keep y
  have _ := cells1 x'
  have _ := cells1 y'
  clear x y x' y'
  go_enter Try.func85, Try.ntmps85
  go_wp2_with (go_at_call 86; refine (low_ok _ _ _ hq (by omega) (by omega) (by omega) (by omega) K.out).mono ?_; rintro e w1 ⟨rfl, hg1⟩; obtain ⟨x2, _, G1⟩ := alloc1 hg1; obtain ⟨_, _⟩ := cells2 x2; have _ := fz x2; have G1 := hid G1; clear hg1 x2)
  refine bodyPost_ret (v := fr (redP p q) (redQ p q)) (by simp [results, Try.results85, go_sem, *]) rfl ⟨rfl, ?_⟩
  exact (G1.out.setCell (by simp) _).setCell (by simp) _
set_option maxRecDepth 20000 in
set_option maxHeartbeats 400000 in
theorem cmake_bad (p q : Int) (w : World) (b c : Nat) (T : TypeId) (x : w.heap[b]? = some (.cells #[.int .i64 p] T)) (y : w.heap[c]? = some (.cells #[.int .i64 q] T))
    (hq : q ≠ 0) (p1 : -1000000000000000000 ≤ p) (p2 : p ≤ 1000000000000000000) (q1 : -1000000000000000000 ≤ q) (q2 : q ≤ 1000000000000000000) (hk : okB (redP p q) (redQ p q) = false) :
    Calls Try.prog 85 #[.pointer (some ⟨b, 0, none⟩), .pointer (some ⟨c, 0, none⟩)] w fun e w' => (∃ x y, e = .panicked [{ v := .iface 103 (fr x y), recovered := false }]) ∧ Gr w w' := by
  have K := hid hk; clear hk
  have x' := (Gr.alloc w (.cells #[.int .i64 0, .int .i64 0] 25)).keep x
  have y' := (Gr.alloc w (.cells #[.int .i64 0, .int .i64 0] 25)).keep y
  have _ := cells1 x'
  have _ := cells1 y'
  clear x y x' y'
  go_enter Try.func85, Try.ntmps85
  go_wp2_with (go_at_call 86; refine (low_bad _ _ _ hq (by omega) (by omega) (by omega) (by omega) K.out).mono ?_; rintro e w1 ⟨⟨x, y, rfl⟩, hg1⟩)
  exact ⟨rfl, ⟨x, y, rfl⟩, (Gr.alloc _ _).trans hg1⟩
end Go.Proofs.Ytnijgondbpnpfaa
