/- WALKS: spans of sums and differences: the program's. -/
import Derived.Test.YtfcoigdmnmgohaaR
namespace Go.Proofs.Ytfcoigdmnmgohaa
open Go.RowKit Go.Sort

theorem plus_yes (a b c d : Int) (w : World) (h1 : okB a b = true) (h2 : okB c d = true) (hk : okB (redP (a*d+c*b) (b*d)) (redQ (a*d+c*b) (b*d)) = true) :
    Calls Try.prog 74 #[fr a b, fr c d] w fun e w' => e = .returned (fr (redP (a*d+c*b) (b*d)) (redQ (a*d+c*b) (b*d))) ∧ Gr w w' := by
  obtain ⟨b1, b2, b3, b4⟩ := okB_bd h1
  obtain ⟨d1, d2, d3, d4⟩ := okB_bd h2
  exact plus_ok a b c d w b1 b2 b3 b4 d1 d2 d3 d4 hk
theorem plus_no (a b c d : Int) (w : World) (h1 : okB a b = true) (h2 : okB c d = true) (hk : okB (redP (a*d+c*b) (b*d)) (redQ (a*d+c*b) (b*d)) = false) :
    Calls Try.prog 74 #[fr a b, fr c d] w fun e w' => (∃ x y, e = .panicked [{ v := .iface 170 (fr x y), recovered := false }]) ∧ Gr w w' := by
  obtain ⟨b1, b2, b3, b4⟩ := okB_bd h1
  obtain ⟨d1, d2, d3, d4⟩ := okB_bd h2
  exact plus_bad a b c d w b1 b2 b3 b4 d1 d2 d3 d4 hk
theorem minus_yes (a b c d : Int) (w : World) (h1 : okB a b = true) (h2 : okB c d = true) (hk : okB (redP (a*d-c*b) (b*d)) (redQ (a*d-c*b) (b*d)) = true) :
    Calls Try.prog 190 #[fr a b, fr c d] w fun e w' => e = .returned (fr (redP (a*d-c*b) (b*d)) (redQ (a*d-c*b) (b*d))) ∧ Gr w w' := by
  obtain ⟨b1, b2, b3, b4⟩ := okB_bd h1
  obtain ⟨d1, d2, d3, d4⟩ := okB_bd h2
  exact minus_ok a b c d w b1 b2 b3 b4 d1 d2 d3 d4 hk
theorem minus_no (a b c d : Int) (w : World) (h1 : okB a b = true) (h2 : okB c d = true) (hk : okB (redP (a*d-c*b) (b*d)) (redQ (a*d-c*b) (b*d)) = false) :
    Calls Try.prog 190 #[fr a b, fr c d] w fun e w' => (∃ x y, e = .panicked [{ v := .iface 170 (fr x y), recovered := false }]) ∧ Gr w w' := by
  obtain ⟨b1, b2, b3, b4⟩ := okB_bd h1
  obtain ⟨d1, d2, d3, d4⟩ := okB_bd h2
  exact minus_bad a b c d w b1 b2 b3 b4 d1 d2 d3 d4 hk
theorem times_yes (a b c d : Int) (w : World) (h1 : okB a b = true) (h2 : okB c d = true) (hk : okB (redP (a*c) (b*d)) (redQ (a*c) (b*d)) = true) :
    Calls Try.prog 75 #[fr a b, fr c d] w fun e w' => e = .returned (fr (redP (a*c) (b*d)) (redQ (a*c) (b*d))) ∧ Gr w w' := by
  obtain ⟨b1, b2, b3, b4⟩ := okB_bd h1
  obtain ⟨d1, d2, d3, d4⟩ := okB_bd h2
  exact times_ok a b c d w b1 b2 b3 b4 d1 d2 d3 d4 hk
theorem times_no (a b c d : Int) (w : World) (h1 : okB a b = true) (h2 : okB c d = true) (hk : okB (redP (a*c) (b*d)) (redQ (a*c) (b*d)) = false) :
    Calls Try.prog 75 #[fr a b, fr c d] w fun e w' => (∃ x y, e = .panicked [{ v := .iface 170 (fr x y), recovered := false }]) ∧ Gr w w' := by
  obtain ⟨b1, b2, b3, b4⟩ := okB_bd h1
  obtain ⟨d1, d2, d3, d4⟩ := okB_bd h2
  exact times_bad a b c d w b1 b2 b3 b4 d1 d2 d3 d4 hk
end Go.Proofs.Ytfcoigdmnmgohaa
