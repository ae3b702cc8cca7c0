/- WALKS: a fraction is looked at; the table of operations, and the closures in which they are done. -/
import Derived.Test.YtnijgondbpnpfaaE
import Derived.Laws.EntriesVeiled
namespace Go.Proofs.Ytnijgondbpnpfaa
open Go.RowKit Go.Sort

set_option maxHeartbeats 400000 in
/-- impl.ValidFrac -/
theorem iok_yes (p q : Int) (w : World) (h1 : 1 ≤ q) (h2 : q ≤ 1000000000) (h3 : -1000000000 ≤ p) (h4 : p ≤ 1000000000) :
    Calls Try.prog 27 #[fr p q] w fun e w' => e = .returned (.bool (((Int.gcd p q : Nat) : Int) == 1)) ∧ Gr w w' := by
  go_enter Try.func27, Try.ntmps27
  go_wp2_with (go_at_call 80; refine (cd_any _ _ _ (by omega) (by omega) (by omega) (by omega)).mono ?_; rintro e w1 ⟨rfl, rfl⟩)
  go_ret
  exact ⟨rfl, Gr.alloc _ _⟩
set_option maxHeartbeats 400000 in
theorem iok_q1 (p q : Int) (w : World) (h1 : q < 1) :
    Calls Try.prog 27 #[fr p q] w fun e w' => e = .returned (.bool false) ∧ Gr w w' := by
  go_enter Try.func27, Try.ntmps27
  go_wp2_with fail
  go_ret
  exact ⟨rfl, Gr.alloc _ _⟩
set_option maxHeartbeats 400000 in
theorem iok_q2 (p q : Int) (w : World) (h1 : 1 ≤ q) (h2 : 1000000000 < q) :
    Calls Try.prog 27 #[fr p q] w fun e w' => e = .returned (.bool false) ∧ Gr w w' := by
  go_enter Try.func27, Try.ntmps27
  go_wp2_with fail
  go_ret
  exact ⟨rfl, Gr.alloc _ _⟩
set_option maxHeartbeats 400000 in
theorem iok_p1 (p q : Int) (w : World) (h1 : 1 ≤ q) (h2 : q ≤ 1000000000) (h3 : p < -1000000000) :
    Calls Try.prog 27 #[fr p q] w fun e w' => e = .returned (.bool false) ∧ Gr w w' := by
  go_enter Try.func27, Try.ntmps27
  go_wp2_with fail
  go_ret
  exact ⟨rfl, Gr.alloc _ _⟩
set_option maxHeartbeats 400000 in
theorem iok_p2 (p q : Int) (w : World) (h1 : 1 ≤ q) (h2 : q ≤ 1000000000) (h3 : -1000000000 ≤ p) (h4 : 1000000000 < p) :
    Calls Try.prog 27 #[fr p q] w fun e w' => e = .returned (.bool false) ∧ Gr w w' := by
  go_enter Try.func27, Try.ntmps27
  go_wp2_with fail
  go_ret
  exact ⟨rfl, Gr.alloc _ _⟩
theorem okB_no {p q : Int} (h : q < 1 ∨ 1000000000 < q ∨ p < -1000000000 ∨ 1000000000 < p) : okB p q = false := by
  rw [okB_false]; unfold Ok; omega
/-- impl.ValidFrac -/
theorem iok_any (p q : Int) (w : World) :
    Calls Try.prog 27 #[fr p q] w fun e w' => e = .returned (.bool (okB p q)) ∧ Gr w w' := by
  by_cases h1 : q < 1
  · rw [okB_no (by omega)]; exact iok_q1 p q w h1
  by_cases h2 : 1000000000 < q
  · rw [okB_no (by omega)]; exact iok_q2 p q w (by omega) h2
  by_cases h3 : p < -1000000000
  · rw [okB_no (by omega)]; exact iok_p1 p q w (by omega) (by omega) h3
  by_cases h4 : 1000000000 < p
  · rw [okB_no (by omega)]; exact iok_p2 p q w (by omega) (by omega) (by omega) h4
  have e : okB p q = (((Int.gcd p q : Nat) : Int) == 1) := by
    rw [Bool.eq_iff_iff, okB_iff]; unfold Ok; simp; omega
  rw [e]
  exact iok_yes p q w (by omega) (by omega) (by omega) (by omega)

set_option maxRecDepth 20000 in
set_option maxHeartbeats 400000 in
/-- impl.operations -/
theorem ops_any (w : World) :
    Calls Try.prog 138 #[] w fun e w' => e = .returned (.agg #[.func (.func 118) #[] #[], .func (.func 117) #[] #[], .func (.func 151) #[] #[], .func (.func 154) #[] #[]]) ∧ Gr w w' := by
  go_enter Try.func138, Try.ntmps138
  go_wp2
  refine bodyPost_ret (v := .agg #[.func (.func 118) #[] #[], .func (.func 117) #[] #[], .func (.func 151) #[] #[], .func (.func 154) #[] #[]]) (by simp [results, Try.results138, go_sem]) rfl ⟨rfl, ?_⟩
  exact Gr.alloc _ _
set_option maxRecDepth 20000 in
set_option maxHeartbeats 400000 in
theorem clos_plus_ok (a b c d : Int) (w : World) (b8 b4 b5 : Nat) (T : TypeId) (x8 : w.heap[b8]? = some (.cells #[.func (.func 118) #[] #[]] T)) (x4 : w.heap[b4]? = some (.cells #[.int .i64 a, .int .i64 b] 25)) (x5 : w.heap[b5]? = some (.cells #[.int .i64 c, .int .i64 d] 25)) (h1 : 1 ≤ b) (h2 : b ≤ 1000000000) (h3 : -1000000000 ≤ a) (h4 : a ≤ 1000000000) (g1 : 1 ≤ d) (g2 : d ≤ 1000000000) (g3 : -1000000000 ≤ c) (g4 : c ≤ 1000000000) (hk : okB (redP (a*d+c*b) (b*d)) (redQ (a*d+c*b) (b*d)) = true) :
    Calls Try.prog 139 #[.pointer (some ⟨b8, 0, none⟩), .pointer (some ⟨b4, 0, none⟩), .pointer (some ⟨b5, 0, none⟩)] w fun e w' => e = .returned (fr (redP (a*d+c*b) (b*d)) (redQ (a*d+c*b) (b*d))) ∧ Gr w w' := by
  have K := hid hk; clear hk
  have l8 := (Array.getElem?_eq_some_iff.1 x8).1
  have l4 := (Array.getElem?_eq_some_iff.1 x4).1
  have l5 := (Array.getElem?_eq_some_iff.1 x5).1
  have y8 := (Gr.alloc w (.cells #[.int .i64 0, .int .i64 0] 25)).keep x8
  have y4 := (Gr.alloc w (.cells #[.int .i64 0, .int .i64 0] 25)).keep x4
  have y5 := (Gr.alloc w (.cells #[.int .i64 0, .int .i64 0] 25)).keep x5
  have _ := cells1 y8
  obtain ⟨_, _⟩ := cells2 y4
  obtain ⟨_, _⟩ := cells2 y5
  clear x8 x4 x5 y8 y4 y5
  go_enter Try.func139, Try.ntmps139
  go_wp2_with (go_at_call 118; refine (plus_ok a b c d _ h1 h2 h3 h4 g1 g2 g3 g4 K.out).mono ?_; rintro e w1 ⟨rfl, hg1⟩; obtain ⟨x2, _, G1⟩ := alloc1 hg1; obtain ⟨_, _⟩ := cells2 x2; have _ := fz x2; have G1 := hid G1; clear hg1 x2)
  refine bodyPost_ret (v := fr (redP (a*d+c*b) (b*d)) (redQ (a*d+c*b) (b*d))) (by simp [results, Try.results139, go_sem, *]) rfl ⟨rfl, ?_⟩
  exact (G1.out.setCell (by simp) _).setCell (by simp) _
set_option maxRecDepth 20000 in
set_option maxHeartbeats 400000 in
theorem clos_plus_bad (a b c d : Int) (w : World) (b8 b4 b5 : Nat) (T : TypeId) (x8 : w.heap[b8]? = some (.cells #[.func (.func 118) #[] #[]] T)) (x4 : w.heap[b4]? = some (.cells #[.int .i64 a, .int .i64 b] 25)) (x5 : w.heap[b5]? = some (.cells #[.int .i64 c, .int .i64 d] 25)) (h1 : 1 ≤ b) (h2 : b ≤ 1000000000) (h3 : -1000000000 ≤ a) (h4 : a ≤ 1000000000) (g1 : 1 ≤ d) (g2 : d ≤ 1000000000) (g3 : -1000000000 ≤ c) (g4 : c ≤ 1000000000) (hk : okB (redP (a*d+c*b) (b*d)) (redQ (a*d+c*b) (b*d)) = false) :
    Calls Try.prog 139 #[.pointer (some ⟨b8, 0, none⟩), .pointer (some ⟨b4, 0, none⟩), .pointer (some ⟨b5, 0, none⟩)] w fun e w' => (∃ x y, e = .panicked [{ v := .iface 103 (fr x y), recovered := false }]) ∧ Gr w w' := by
  have K := hid hk; clear hk
  have l8 := (Array.getElem?_eq_some_iff.1 x8).1
  have l4 := (Array.getElem?_eq_some_iff.1 x4).1
  have l5 := (Array.getElem?_eq_some_iff.1 x5).1
  have y8 := (Gr.alloc w (.cells #[.int .i64 0, .int .i64 0] 25)).keep x8
  have y4 := (Gr.alloc w (.cells #[.int .i64 0, .int .i64 0] 25)).keep x4
  have y5 := (Gr.alloc w (.cells #[.int .i64 0, .int .i64 0] 25)).keep x5
  have _ := cells1 y8
  obtain ⟨_, _⟩ := cells2 y4
  obtain ⟨_, _⟩ := cells2 y5
  clear x8 x4 x5 y8 y4 y5
  go_enter Try.func139, Try.ntmps139
  go_wp2_with (go_at_call 118; refine (plus_bad a b c d _ h1 h2 h3 h4 g1 g2 g3 g4 K.out).mono ?_; rintro e w1 ⟨⟨x, y, rfl⟩, hg1⟩)
  exact ⟨rfl, ⟨x, y, rfl⟩, (Gr.alloc _ _).trans hg1⟩
set_option maxRecDepth 20000 in
set_option maxHeartbeats 400000 in
theorem clos_minus_ok (a b c d : Int) (w : World) (b8 b4 b5 : Nat) (T : TypeId) (x8 : w.heap[b8]? = some (.cells #[.func (.func 117) #[] #[]] T)) (x4 : w.heap[b4]? = some (.cells #[.int .i64 a, .int .i64 b] 25)) (x5 : w.heap[b5]? = some (.cells #[.int .i64 c, .int .i64 d] 25)) (h1 : 1 ≤ b) (h2 : b ≤ 1000000000) (h3 : -1000000000 ≤ a) (h4 : a ≤ 1000000000) (g1 : 1 ≤ d) (g2 : d ≤ 1000000000) (g3 : -1000000000 ≤ c) (g4 : c ≤ 1000000000) (hk : okB (redP (a*d-c*b) (b*d)) (redQ (a*d-c*b) (b*d)) = true) :
    Calls Try.prog 139 #[.pointer (some ⟨b8, 0, none⟩), .pointer (some ⟨b4, 0, none⟩), .pointer (some ⟨b5, 0, none⟩)] w fun e w' => e = .returned (fr (redP (a*d-c*b) (b*d)) (redQ (a*d-c*b) (b*d))) ∧ Gr w w' := by
  have K := hid hk; clear hk
  have l8 := (Array.getElem?_eq_some_iff.1 x8).1
  have l4 := (Array.getElem?_eq_some_iff.1 x4).1
  have l5 := (Array.getElem?_eq_some_iff.1 x5).1
  have y8 := (Gr.alloc w (.cells #[.int .i64 0, .int .i64 0] 25)).keep x8
  have y4 := (Gr.alloc w (.cells #[.int .i64 0, .int .i64 0] 25)).keep x4
  have y5 := (Gr.alloc w (.cells #[.int .i64 0, .int .i64 0] 25)).keep x5
  have _ := cells1 y8
  obtain ⟨_, _⟩ := cells2 y4
  obtain ⟨_, _⟩ := cells2 y5
  clear x8 x4 x5 y8 y4 y5
  go_enter Try.func139, Try.ntmps139
  go_wp2_with (go_at_call 117; refine (minus_ok a b c d _ h1 h2 h3 h4 g1 g2 g3 g4 K.out).mono ?_; rintro e w1 ⟨rfl, hg1⟩; obtain ⟨x2, _, G1⟩ := alloc1 hg1; obtain ⟨_, _⟩ := cells2 x2; have _ := fz x2; have G1 := hid G1; clear hg1 x2)
  refine bodyPost_ret (v := fr (redP (a*d-c*b) (b*d)) (redQ (a*d-c*b) (b*d))) (by simp [results, Try.results139, go_sem, *]) rfl ⟨rfl, ?_⟩
  exact (G1.out.setCell (by simp) _).setCell (by simp) _
set_option maxRecDepth 20000 in
set_option maxHeartbeats 400000 in
theorem clos_minus_bad (a b c d : Int) (w : World) (b8 b4 b5 : Nat) (T : TypeId) (x8 : w.heap[b8]? = some (.cells #[.func (.func 117) #[] #[]] T)) (x4 : w.heap[b4]? = some (.cells #[.int .i64 a, .int .i64 b] 25)) (x5 : w.heap[b5]? = some (.cells #[.int .i64 c, .int .i64 d] 25)) (h1 : 1 ≤ b) (h2 : b ≤ 1000000000) (h3 : -1000000000 ≤ a) (h4 : a ≤ 1000000000) (g1 : 1 ≤ d) (g2 : d ≤ 1000000000) (g3 : -1000000000 ≤ c) (g4 : c ≤ 1000000000) (hk : okB (redP (a*d-c*b) (b*d)) (redQ (a*d-c*b) (b*d)) = false) :
    Calls Try.prog 139 #[.pointer (some ⟨b8, 0, none⟩), .pointer (some ⟨b4, 0, none⟩), .pointer (some ⟨b5, 0, none⟩)] w fun e w' => (∃ x y, e = .panicked [{ v := .iface 103 (fr x y), recovered := false }]) ∧ Gr w w' := by
  have K := hid hk; clear hk
  have l8 := (Array.getElem?_eq_some_iff.1 x8).1
  have l4 := (Array.getElem?_eq_some_iff.1 x4).1
  have l5 := (Array.getElem?_eq_some_iff.1 x5).1
  have y8 := (Gr.alloc w (.cells #[.int .i64 0, .int .i64 0] 25)).keep x8
  have y4 := (Gr.alloc w (.cells #[.int .i64 0, .int .i64 0] 25)).keep x4
  have y5 := (Gr.alloc w (.cells #[.int .i64 0, .int .i64 0] 25)).keep x5
  have _ := cells1 y8
  obtain ⟨_, _⟩ := cells2 y4
  obtain ⟨_, _⟩ := cells2 y5
  clear x8 x4 x5 y8 y4 y5
  go_enter Try.func139, Try.ntmps139
  go_wp2_with (go_at_call 117; refine (minus_bad a b c d _ h1 h2 h3 h4 g1 g2 g3 g4 K.out).mono ?_; rintro e w1 ⟨⟨x, y, rfl⟩, hg1⟩)
  exact ⟨rfl, ⟨x, y, rfl⟩, (Gr.alloc _ _).trans hg1⟩
set_option maxRecDepth 20000 in
set_option maxHeartbeats 400000 in
theorem clos_times_ok (a b c d : Int) (w : World) (b8 b4 b5 : Nat) (T : TypeId) (x8 : w.heap[b8]? = some (.cells #[.func (.func 151) #[] #[]] T)) (x4 : w.heap[b4]? = some (.cells #[.int .i64 a, .int .i64 b] 25)) (x5 : w.heap[b5]? = some (.cells #[.int .i64 c, .int .i64 d] 25)) (h1 : 1 ≤ b) (h2 : b ≤ 1000000000) (h3 : -1000000000 ≤ a) (h4 : a ≤ 1000000000) (g1 : 1 ≤ d) (g2 : d ≤ 1000000000) (g3 : -1000000000 ≤ c) (g4 : c ≤ 1000000000) (hk : okB (redP (a*c) (b*d)) (redQ (a*c) (b*d)) = true) :
    Calls Try.prog 139 #[.pointer (some ⟨b8, 0, none⟩), .pointer (some ⟨b4, 0, none⟩), .pointer (some ⟨b5, 0, none⟩)] w fun e w' => e = .returned (fr (redP (a*c) (b*d)) (redQ (a*c) (b*d))) ∧ Gr w w' := by
  have K := hid hk; clear hk
  have l8 := (Array.getElem?_eq_some_iff.1 x8).1
  have l4 := (Array.getElem?_eq_some_iff.1 x4).1
  have l5 := (Array.getElem?_eq_some_iff.1 x5).1
  have y8 := (Gr.alloc w (.cells #[.int .i64 0, .int .i64 0] 25)).keep x8
  have y4 := (Gr.alloc w (.cells #[.int .i64 0, .int .i64 0] 25)).keep x4
  have y5 := (Gr.alloc w (.cells #[.int .i64 0, .int .i64 0] 25)).keep x5
  have _ := cells1 y8
  obtain ⟨_, _⟩ := cells2 y4
  obtain ⟨_, _⟩ := cells2 y5
  clear x8 x4 x5 y8 y4 y5
  go_enter Try.func139, Try.ntmps139
  go_wp2_with (go_at_call 151; refine (times_ok a b c d _ h1 h2 h3 h4 g1 g2 g3 g4 K.out).mono ?_; rintro e w1 ⟨rfl, hg1⟩; obtain ⟨x2, _, G1⟩ := alloc1 hg1; obtain ⟨_, _⟩ := cells2 x2; have _ := fz x2; have G1 := hid G1; clear hg1 x2)
  refine bodyPost_ret (v := fr (redP (a*c) (b*d)) (redQ (a*c) (b*d))) (by simp [results, Try.results139, go_sem, *]) rfl ⟨rfl, ?_⟩
  exact (G1.out.setCell (by simp) _).setCell (by simp) _
set_option maxRecDepth 20000 in
set_option maxHeartbeats 400000 in
theorem clos_times_bad (a b c d : Int) (w : World) (b8 b4 b5 : Nat) (T : TypeId) (x8 : w.heap[b8]? = some (.cells #[.func (.func 151) #[] #[]] T)) (x4 : w.heap[b4]? = some (.cells #[.int .i64 a, .int .i64 b] 25)) (x5 : w.heap[b5]? = some (.cells #[.int .i64 c, .int .i64 d] 25)) (h1 : 1 ≤ b) (h2 : b ≤ 1000000000) (h3 : -1000000000 ≤ a) (h4 : a ≤ 1000000000) (g1 : 1 ≤ d) (g2 : d ≤ 1000000000) (g3 : -1000000000 ≤ c) (g4 : c ≤ 1000000000) (hk : okB (redP (a*c) (b*d)) (redQ (a*c) (b*d)) = false) :
    Calls Try.prog 139 #[.pointer (some ⟨b8, 0, none⟩), .pointer (some ⟨b4, 0, none⟩), .pointer (some ⟨b5, 0, none⟩)] w fun e w' => (∃ x y, e = .panicked [{ v := .iface 103 (fr x y), recovered := false }]) ∧ Gr w w' := by
  have K := hid hk; clear hk
  have l8 := (Array.getElem?_eq_some_iff.1 x8).1
  have l4 := (Array.getElem?_eq_some_iff.1 x4).1
  have l5 := (Array.getElem?_eq_some_iff.1 x5).1
  have y8 := (Gr.alloc w (.cells #[.int .i64 0, .int .i64 0] 25)).keep x8
  have y4 := (Gr.alloc w (.cells #[.int .i64 0, .int .i64 0] 25)).keep x4
  have y5 := (Gr.alloc w (.cells #[.int .i64 0, .int .i64 0] 25)).keep x5
  have _ := cells1 y8
  obtain ⟨_, _⟩ := cells2 y4
  obtain ⟨_, _⟩ := cells2 y5
  clear x8 x4 x5 y8 y4 y5
  go_enter Try.func139, Try.ntmps139
  go_wp2_with (go_at_call 151; refine (times_bad a b c d _ h1 h2 h3 h4 g1 g2 g3 g4 K.out).mono ?_; rintro e w1 ⟨⟨x, y, rfl⟩, hg1⟩)
  exact ⟨rfl, ⟨x, y, rfl⟩, (Gr.alloc _ _).trans hg1⟩
set_option maxRecDepth 20000 in
set_option maxHeartbeats 400000 in
theorem clos_over_ok (a b c d : Int) (w : World) (b8 b4 b5 : Nat) (T : TypeId) (x8 : w.heap[b8]? = some (.cells #[.func (.func 154) #[] #[]] T)) (x4 : w.heap[b4]? = some (.cells #[.int .i64 a, .int .i64 b] 25)) (x5 : w.heap[b5]? = some (.cells #[.int .i64 c, .int .i64 d] 25)) (h1 : 1 ≤ b) (h2 : b ≤ 1000000000) (h3 : -1000000000 ≤ a) (h4 : a ≤ 1000000000) (g1 : 1 ≤ d) (g2 : d ≤ 1000000000) (g3 : -1000000000 ≤ c) (g4 : c ≤ 1000000000) (hz : c ≠ 0) (hk : okB (redP (a*d) (b*c)) (redQ (a*d) (b*c)) = true) :
    Calls Try.prog 139 #[.pointer (some ⟨b8, 0, none⟩), .pointer (some ⟨b4, 0, none⟩), .pointer (some ⟨b5, 0, none⟩)] w fun e w' => e = .returned (fr (redP (a*d) (b*c)) (redQ (a*d) (b*c))) ∧ Gr w w' := by
  have K := hid hk; clear hk
  have l8 := (Array.getElem?_eq_some_iff.1 x8).1
  have l4 := (Array.getElem?_eq_some_iff.1 x4).1
  have l5 := (Array.getElem?_eq_some_iff.1 x5).1
  have y8 := (Gr.alloc w (.cells #[.int .i64 0, .int .i64 0] 25)).keep x8
  have y4 := (Gr.alloc w (.cells #[.int .i64 0, .int .i64 0] 25)).keep x4
  have y5 := (Gr.alloc w (.cells #[.int .i64 0, .int .i64 0] 25)).keep x5
  have _ := cells1 y8
  obtain ⟨_, _⟩ := cells2 y4
  obtain ⟨_, _⟩ := cells2 y5
  clear x8 x4 x5 y8 y4 y5
  go_enter Try.func139, Try.ntmps139
  go_wp2_with (go_at_call 154; refine (over_ok a b c d _ h1 h2 h3 h4 g1 g2 g3 g4 hz K.out).mono ?_; rintro e w1 ⟨rfl, hg1⟩; obtain ⟨x2, _, G1⟩ := alloc1 hg1; obtain ⟨_, _⟩ := cells2 x2; have _ := fz x2; have G1 := hid G1; clear hg1 x2)
  refine bodyPost_ret (v := fr (redP (a*d) (b*c)) (redQ (a*d) (b*c))) (by simp [results, Try.results139, go_sem, *]) rfl ⟨rfl, ?_⟩
  exact (G1.out.setCell (by simp) _).setCell (by simp) _
set_option maxRecDepth 20000 in
set_option maxHeartbeats 400000 in
theorem clos_over_bad (a b c d : Int) (w : World) (b8 b4 b5 : Nat) (T : TypeId) (x8 : w.heap[b8]? = some (.cells #[.func (.func 154) #[] #[]] T)) (x4 : w.heap[b4]? = some (.cells #[.int .i64 a, .int .i64 b] 25)) (x5 : w.heap[b5]? = some (.cells #[.int .i64 c, .int .i64 d] 25)) (h1 : 1 ≤ b) (h2 : b ≤ 1000000000) (h3 : -1000000000 ≤ a) (h4 : a ≤ 1000000000) (g1 : 1 ≤ d) (g2 : d ≤ 1000000000) (g3 : -1000000000 ≤ c) (g4 : c ≤ 1000000000) (hz : c ≠ 0) (hk : okB (redP (a*d) (b*c)) (redQ (a*d) (b*c)) = false) :
    Calls Try.prog 139 #[.pointer (some ⟨b8, 0, none⟩), .pointer (some ⟨b4, 0, none⟩), .pointer (some ⟨b5, 0, none⟩)] w fun e w' => (∃ x y, e = .panicked [{ v := .iface 103 (fr x y), recovered := false }]) ∧ Gr w w' := by
  have K := hid hk; clear hk
  have l8 := (Array.getElem?_eq_some_iff.1 x8).1
  have l4 := (Array.getElem?_eq_some_iff.1 x4).1
  have l5 := (Array.getElem?_eq_some_iff.1 x5).1
  have y8 := (Gr.alloc w (.cells #[.int .i64 0, .int .i64 0] 25)).keep x8
  have y4 := (Gr.alloc w (.cells #[.int .i64 0, .int .i64 0] 25)).keep x4
  have y5 := (Gr.alloc w (.cells #[.int .i64 0, .int .i64 0] 25)).keep x5
  have _ := cells1 y8
  obtain ⟨_, _⟩ := cells2 y4
  obtain ⟨_, _⟩ := cells2 y5
  clear x8 x4 x5 y8 y4 y5
  go_enter Try.func139, Try.ntmps139
  go_wp2_with (go_at_call 154; refine (over_bad a b c d _ h1 h2 h3 h4 g1 g2 g3 g4 hz K.out).mono ?_; rintro e w1 ⟨⟨x, y, rfl⟩, hg1⟩)
  exact ⟨rfl, ⟨x, y, rfl⟩, (Gr.alloc _ _).trans hg1⟩
set_option maxRecDepth 20000 in
set_option maxHeartbeats 400000 in
theorem clos_over_zero (a b d : Int) (w : World) (b8 b4 b5 : Nat) (T : TypeId) (x8 : w.heap[b8]? = some (.cells #[.func (.func 154) #[] #[]] T)) (x4 : w.heap[b4]? = some (.cells #[.int .i64 a, .int .i64 b] 25)) (x5 : w.heap[b5]? = some (.cells #[.int .i64 0, .int .i64 d] 25))  :
    Calls Try.prog 139 #[.pointer (some ⟨b8, 0, none⟩), .pointer (some ⟨b4, 0, none⟩), .pointer (some ⟨b5, 0, none⟩)] w fun e w' => (∃ x y, e = .panicked [{ v := .iface 116 (fr x y), recovered := false }]) ∧ Gr w w' := by
  have l8 := (Array.getElem?_eq_some_iff.1 x8).1
  have l4 := (Array.getElem?_eq_some_iff.1 x4).1
  have l5 := (Array.getElem?_eq_some_iff.1 x5).1
  have y8 := (Gr.alloc w (.cells #[.int .i64 0, .int .i64 0] 25)).keep x8
  have y4 := (Gr.alloc w (.cells #[.int .i64 0, .int .i64 0] 25)).keep x4
  have y5 := (Gr.alloc w (.cells #[.int .i64 0, .int .i64 0] 25)).keep x5
  have _ := cells1 y8
  obtain ⟨_, _⟩ := cells2 y4
  obtain ⟨_, _⟩ := cells2 y5
  clear x8 x4 x5 y8 y4 y5
  go_enter Try.func139, Try.ntmps139
  go_wp2_with (go_at_call 154; refine (over_zero a b d _).mono ?_; rintro e w1 ⟨⟨x, y, rfl⟩, hg1⟩)
  exact ⟨rfl, ⟨x, y, rfl⟩, (Gr.alloc _ _).trans hg1⟩
end Go.Proofs.Ytnijgondbpnpfaa
