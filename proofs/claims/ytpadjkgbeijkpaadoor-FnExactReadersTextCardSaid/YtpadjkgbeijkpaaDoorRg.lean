/- READINGS: guesses of the laws as data, opened. -/
import Derived.Test.YtpadjkgbeijkpaaDoorRd
import Derived.Test.YtpadjkgbeijkpaaDoorPh
import Derived.Deep.Strs
namespace Go.Proofs.YtpadjkgbeijkpaaDoor
open Go.RowKit Go.Sort Go.ChangeShapes Go.WideShapes Go.ChangeAt Go.Joins Go.Deep

section
variable {H : Type} {enc : TypeId × Value → H} {W : World} {base : Nat} {spare : Nat → Bool} {held : Bool}
theorem cellsI16 : Tryd.prog.cellsOf 112 = 1 := by kernel_rfl
theorem wf16 {c : Int} (h : (Lit.int .i16 c).wf = true) : W16 c := by
  unfold W16
  simp [Lit.wf] at h
  have e1 : IntKind.i16.min = -32768 := rfl
  have e2 : IntKind.i16.max = 32767 := rfl
  omega
end
end Go.Proofs.YtpadjkgbeijkpaaDoor
