/- WALKS: SpanAround, AddSpans, SubSpans, of the program and of the reference. -/
import Derived.Test.YtfcoigdmnmgohaaS
namespace Go.Proofs.Ytfcoigdmnmgohaa
open Go.RowKit Go.Sort

theorem iok_t (p q : Int) (w : World) (h : okB p q = true) : Calls Try.prog 144 #[fr p q] w fun e w' => e = .returned (.bool true) ∧ Gr w w' :=
  (iok_any p q w).mono fun e w' ⟨he, hg⟩ => ⟨by rw [he, h], hg⟩
theorem iok_f (p q : Int) (w : World) (h : okB p q = false) : Calls Try.prog 144 #[fr p q] w fun e w' => e = .returned (.bool false) ∧ Gr w w' :=
  (iok_any p q w).mono fun e w' ⟨he, hg⟩ => ⟨by rw [he, h], hg⟩
theorem iSpan_t (a b c d : Int) (w : World) (h : spB a b c d = true) : Calls Try.prog 178 #[sp a b c d] w fun e w' => e = .returned (.bool true) ∧ Gr w w' :=
  (iValidSpan a b c d w).mono fun e w' ⟨he, hg⟩ => ⟨by rw [he, h], hg⟩
theorem iSpan_f (a b c d : Int) (w : World) (h : spB a b c d = false) : Calls Try.prog 178 #[sp a b c d] w fun e w' => e = .returned (.bool false) ∧ Gr w w' :=
  (iValidSpan a b c d w).mono fun e w' ⟨he, hg⟩ => ⟨by rw [he, h], hg⟩
theorem spB_ok {a b c d : Int} (h : spB a b c d = true) : okB a b = true ∧ okB c d = true ∧ cmpI a b c d ≤ 0 := by
  unfold spB at h; simpa [and_assoc] using h
end Go.Proofs.Ytfcoigdmnmgohaa
