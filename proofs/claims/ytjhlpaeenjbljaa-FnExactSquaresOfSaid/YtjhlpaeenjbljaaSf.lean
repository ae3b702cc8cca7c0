/- WALKS: closing errors that are shared out evenly, of the reference, and of both sides joined. -/
import Derived.Test.YtjhlpaeenjbljaaSe
namespace Go.Proofs.Ytjhlpaeenjbljaa
open Go.RowKit Go.Sort

theorem madeF {w0 w : World} (h : w0.heap.size ≤ w.heap.size) : (w.alloc (.cells #[] 24)).ownsRow w0.heap.size 24 2 (.slice (some ⟨w.heap.size, 0, none⟩) ([] : List (Int × Int)).length 0) ([] : List (Int × Int)).length (flatL []) := World.ownsRow_made _ #[] 0 h (by simp [maxLen]) (by simp)
def rng64 (n : Nat) : Bool := inB (n : Int) 1 64
theorem in64 (n : Nat) (b : Bool) (h : rng64 n = b) (w : World) : Calls Try.prog 52 #[.int .i64 (n : Int), .int .i64 1, .int .i64 64] w fun e w' => e = .returned (.bool b) ∧ Gr w w' :=
  (in_any (n : Int) 1 64 w).mono fun e w' hh => ⟨by rw [hh.1]; show Ending.returned (.bool (rng64 n)) = _; rw [h], hh.2 ▸ Gr.refl _⟩
end Go.Proofs.Ytjhlpaeenjbljaa
