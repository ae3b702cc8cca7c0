/- READINGS: guesses of the laws as data, opened. -/
import Derived.Test.YtpadjkgbeijkpaaRd
import Derived.Test.YtpadjkgbeijkpaaPh
import Derived.Deep.Strs
namespace Go.Proofs.Ytpadjkgbeijkpaa
open Go.RowKit Go.Sort Go.ChangeShapes Go.WideShapes Go.ChangeAt Go.Joins Go.Deep

section
variable {H : Type} {enc : TypeId × Value → H} {W : World} {base : Nat} {spare : Nat → Bool} {held : Bool}
theorem cellsI16 : Try.prog.cellsOf 60 = 1 := by kernel_rfl
theorem wf16 {c : Int} (h : (Lit.int .i16 c).wf = true) : W16 c := by
  unfold W16
  simp [Lit.wf] at h
  have e1 : IntKind.i16.min = -32768 := rfl
  have e2 : IntKind.i16.max = 32767 := rfl
  omega
end
end Go.Proofs.Ytpadjkgbeijkpaa
