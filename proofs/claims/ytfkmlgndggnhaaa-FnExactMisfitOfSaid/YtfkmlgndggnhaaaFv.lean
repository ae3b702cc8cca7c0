/- WALKS: SumOf, of the program and of the reference. -/
import Derived.Test.YtfkmlgndggnhaaaFu
namespace Go.Proofs.Ytfkmlgndggnhaaa
open Go.RowKit Go.Sort

theorem gt01 : gtB 0 1000000000 = false := by decide
/-! what is told of a list -/
theorem lst_all {xs : List (Int × Int)} {l : Int} (h : lstC xs l = 0) : xs.all (fun x => okB x.1 x.2) = true := by
  cases ha : xs.all (fun x => okB x.1 x.2) with
  | true => rfl
  | false => unfold lstC at h; rw [ha] at h; simp at h
theorem smV_form (r : Option (Int × Int)) : ∃ P Q C : Int, smV r = .tuple #[fr P Q, .int .i64 C] := by
  cases r with
  | none => exact ⟨0, 0, 3, rfl⟩
  | some r => exact ⟨r.1, r.2, 0, rfl⟩
end Go.Proofs.Ytfkmlgndggnhaaa
