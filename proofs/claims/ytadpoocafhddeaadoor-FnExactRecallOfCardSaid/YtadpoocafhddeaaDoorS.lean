/- WALKS: spans of sums and differences: the program's. -/
import Derived.Test.YtadpoocafhddeaaDoorR
namespace Go.Proofs.YtadpoocafhddeaaDoor
open Go.RowKit Go.Sort

end Go.Proofs.YtadpoocafhddeaaDoor
namespace Go.Proofs.YtadpoocafhddeaaDoor
open Go.RowKit Go.Sort

theorem iok_t (p q : Int) (w : World) (h : okB p q = true) : Calls Tryd.prog 107 #[fr p q] w fun e w' => e = .returned (.bool true) ∧ Gr w w' :=
  (iok_any p q w).mono fun e w' ⟨he, hg⟩ => ⟨by rw [he, h], hg⟩
theorem iok_f (p q : Int) (w : World) (h : okB p q = false) : Calls Tryd.prog 107 #[fr p q] w fun e w' => e = .returned (.bool false) ∧ Gr w w' :=
  (iok_any p q w).mono fun e w' ⟨he, hg⟩ => ⟨by rw [he, h], hg⟩
theorem iSpan_t (a b c d : Int) (w : World) (h : spB a b c d = true) : Calls Tryd.prog 106 #[sp a b c d] w fun e w' => e = .returned (.bool true) ∧ Gr w w' :=
  (iValidSpan a b c d w).mono fun e w' ⟨he, hg⟩ => ⟨by rw [he, h], hg⟩
theorem iSpan_f (a b c d : Int) (w : World) (h : spB a b c d = false) : Calls Tryd.prog 106 #[sp a b c d] w fun e w' => e = .returned (.bool false) ∧ Gr w w' :=
  (iValidSpan a b c d w).mono fun e w' ⟨he, hg⟩ => ⟨by rw [he, h], hg⟩
theorem sSpan_t (a b c d : Int) (w : World) (k : Nat) (x : w.heap[k]? = some (.cells #[.int .i64 a, .int .i64 b, .int .i64 c, .int .i64 d] 52)) (h : spB a b c d = true) :
    Calls Tryd.prog 79 #[.pointer (some ⟨k, 0, none⟩)] w fun e w' => e = .returned (.bool true) ∧ Gr w w' :=
  (sSpanAt a b c d w k x).mono fun e w' ⟨he, hg⟩ => ⟨by rw [he, h], hg⟩
theorem sSpan_f (a b c d : Int) (w : World) (k : Nat) (x : w.heap[k]? = some (.cells #[.int .i64 a, .int .i64 b, .int .i64 c, .int .i64 d] 52)) (h : spB a b c d = false) :
    Calls Tryd.prog 79 #[.pointer (some ⟨k, 0, none⟩)] w fun e w' => e = .returned (.bool false) ∧ Gr w w' :=
  (sSpanAt a b c d w k x).mono fun e w' ⟨he, hg⟩ => ⟨by rw [he, h], hg⟩
theorem spB_ok {a b c d : Int} (h : spB a b c d = true) : okB a b = true ∧ okB c d = true ∧ cmpI a b c d ≤ 0 := by
  unfold spB at h; simpa [and_assoc] using h
end Go.Proofs.YtadpoocafhddeaaDoor
namespace Go.Proofs.YtadpoocafhddeaaDoor
open Go.RowKit Go.Sort

theorem okB_neg {p q : Int} (h : okB p q = true) : okB (-p) q = true := by
  rw [okB_iff] at *
  unfold Ok at *
  have e : Int.gcd (-p) q = Int.gcd p q := by simp [Int.gcd]
  omega
end Go.Proofs.YtadpoocafhddeaaDoor
namespace Go.Proofs.YtadpoocafhddeaaDoor
open Go.RowKit Go.Sort

theorem sok_t (p q : Int) (w : World) (h : okB p q = true) : Calls Tryd.prog 80 #[fr p q] w fun e w' => e = .returned (.bool true) ∧ Gr w w' :=
  (sok_any p q w).mono fun e w' ⟨he, hg⟩ => ⟨by rw [he, h], hg⟩
theorem sok_f (p q : Int) (w : World) (h : okB p q = false) : Calls Tryd.prog 80 #[fr p q] w fun e w' => e = .returned (.bool false) ∧ Gr w w' :=
  (sok_any p q w).mono fun e w' ⟨he, hg⟩ => ⟨by rw [he, h], hg⟩
/-! InSpan -/
def liesB (a b c d p q : Int) : Bool := decide (cmpI a b p q ≤ 0) && decide (cmpI p q c d ≤ 0)
end Go.Proofs.YtadpoocafhddeaaDoor
