/- WALKS: told: the result, or the error of a panic. -/
import Derived.Test.YtjhlpaeenjbljaaC0
namespace Go.Proofs.Ytjhlpaeenjbljaa
open Go.RowKit Go.Sort

set_option maxRecDepth 20000 in
set_option maxHeartbeats 400000 in
theorem told_ok_F (f : Nat) (cap : Array Value) (P Q : Int) (w : World) (hen : ∀ w, (callFunc f cap).run Try.prog w = .ok (.enter f cap) w) (hF : ∀ w', Gr w w' → Calls Try.prog f cap w' fun e w'' => e = .returned (fr P Q) ∧ Gr w' w'') :
    Calls Try.prog 83 #[.func (.func f) #[] cap] w fun e w' => e = .returned (.tuple #[fr P Q, .int .i64 0]) ∧ Gr w w' := by
  have HF := hid hF; clear hF
  go_enter_defers Try.func83, Try.ntmps83
  go_wp2_with fail
  refine (HF.out _ ((Gr.alloc _ _).trans (Gr.alloc _ _))).mono ?_
  rintro e w1 ⟨rfl, hg⟩
  obtain ⟨x0, x1, hz, G1⟩ := alloc2 hg
  obtain ⟨_, _⟩ := cells2 x0
  have _ := cells1 x1
  have _ := fz x0
  have _ := fz x1
  have G1 := hid G1
  clear hg x0 x1
  go_wp2_with fail
  refine leaves_cons (f := 125) (args := #[.pointer (some ⟨w.heap.size + 1, 0, none⟩)]) (by simp) (by simp [go_sem]) ?_
  refine (catch_idle_F _ _).mono ?_
  rintro e u' w2 ⟨rfl, rfl, rfl⟩
  simp [Leaves, settle, results, Try.results83, go_sem, *]
  exact (((G1.out.setCell (by simp) _).setCell (by simp) _).setCell (by simp) _)

set_option maxRecDepth 20000 in
set_option maxHeartbeats 400000 in
theorem told_great_F (f : Nat) (cap : Array Value) (w : World) (hen : ∀ w, (callFunc f cap).run Try.prog w = .ok (.enter f cap) w) (hF : ∀ w', Gr w w' → Calls Try.prog f cap w' fun e w'' => (∃ p q, e = .panicked [{ v := .iface 138 (fr p q), recovered := false }]) ∧ Gr w' w'') :
    Calls Try.prog 83 #[.func (.func f) #[] cap] w fun e w' => e = .returned (.tuple #[fr 0 0, .int .i64 3]) ∧ Gr w w' := by
  have HF := hid hF; clear hF
  go_enter_defers Try.func83, Try.ntmps83
  go_wp2_with fail
  refine (HF.out _ ((Gr.alloc _ _).trans (Gr.alloc _ _))).mono ?_
  rintro e w1 ⟨⟨p, q, rfl⟩, hg⟩
  obtain ⟨x0, x1, hz, G1⟩ := alloc2 hg
  refine leaves_cons (f := 125) (args := #[.pointer (some ⟨w.heap.size + 1, 0, none⟩)]) (by simp) (by simp [go_sem]) ?_
  refine (catch_great_F _ _ _ _ _ _ x1).mono ?_
  rintro e u' w2 ⟨rfl, rfl, w3, hg3, rfl⟩
  have x0 := hg3.keep x0
  obtain ⟨_, _⟩ := cells2 x0
  have _ := cells1 (hg3.keep x1)
  simp [Leaves, settle, results, Try.results83, go_sem, *]
  exact (G1.trans hg3).setCell (by simp) _

end Go.Proofs.Ytjhlpaeenjbljaa
