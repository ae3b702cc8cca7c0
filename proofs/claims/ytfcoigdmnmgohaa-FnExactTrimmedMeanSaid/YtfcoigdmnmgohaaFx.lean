/- WALKS: MeanOf, of the program and of the reference: the ends. -/
import Derived.Test.YtfcoigdmnmgohaaFw
namespace Go.Proofs.Ytfcoigdmnmgohaa
open Go.RowKit Go.Sort

set_option maxRecDepth 20000 in
set_option maxHeartbeats 400000 in
theorem imeanF_ok (g n : Nat) (P Q : Int) (w : World) (h : ∀ w', Gr w w' → Calls Try.prog 236 #[sl g n, .func (.func 237) #[] #[]] w' fun e w'' => e = .returned (fr P Q) ∧ Gr w' w'') :
    Calls Try.prog 220 #[sl g n] w fun e w' => e = .returned (fr P Q) ∧ Gr w w' := by
  have H := hid h; clear h
  go_enter Try.func220, Try.ntmps220
  go_wp2_with fail
  refine (H.out _ ((Gr.refl _).al _)).mono ?_
  rintro e w1 ⟨rfl, hg1⟩
  obtain ⟨x1_0, hz1, g1⟩ := alloc1 hg1
  obtain ⟨_, _⟩ := cells2 x1_0
  have _ := fz x1_0
  have _ := ltb x1_0
  have X1_0 := hid x1_0; clear x1_0
  have G1 := hid (g1)
  clear hg1 g1
  go_wp2
  refine bodyPost_ret (v := fr P Q) (by simp [results, Try.results220, go_sem, *]) rfl ⟨rfl, ?_⟩
  exact ((G1.out).setCell (by simp <;> omega) _).setCell (by simp <;> omega) _
set_option maxRecDepth 20000 in
set_option maxHeartbeats 400000 in
theorem imeanF_bad (g n : Nat) (w : World) (h : ∀ w', Gr w w' → Calls Try.prog 236 #[sl g n, .func (.func 237) #[] #[]] w' fun e w'' => (∃ x y, e = .panicked [{ v := .iface 170 (fr x y), recovered := false }]) ∧ Gr w' w'') :
    Calls Try.prog 220 #[sl g n] w fun e w' => (∃ x y, e = .panicked [{ v := .iface 170 (fr x y), recovered := false }]) ∧ Gr w w' := by
  have H := hid h; clear h
  go_enter Try.func220, Try.ntmps220
  go_wp2_with fail
  refine (H.out _ ((Gr.refl _).al _)).mono ?_
  rintro e w1 ⟨⟨xp, yp, rfl⟩, hg1⟩
  obtain ⟨x1_0, hz1, g1⟩ := alloc1 hg1
  obtain ⟨_, _⟩ := cells2 x1_0
  have _ := fz x1_0
  have _ := ltb x1_0
  have X1_0 := hid x1_0; clear x1_0
  have G1 := hid (g1)
  clear hg1 g1
  exact ⟨rfl, ⟨xp, yp, rfl⟩, G1.out⟩
end Go.Proofs.Ytfcoigdmnmgohaa
