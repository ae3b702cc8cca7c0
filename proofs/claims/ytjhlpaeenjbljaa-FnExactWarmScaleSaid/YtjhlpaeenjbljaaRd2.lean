/- READINGS: verniers, screws and spindles among the laws' arguments, opened and shut. -/
import Derived.Test.YtjhlpaeenjbljaaRd
import Derived.Test.YtjhlpaeenjbljaaB1
import Derived.Deep.Strs
namespace Go.Proofs.Ytjhlpaeenjbljaa
open Go.RowKit Go.Sort Go.ChangeShapes Go.WideShapes Go.ChangeAt Go.Joins Go.Deep

section
variable {H : Type} {enc : TypeId × Value → H} {W : World} {base : Nat} {spare : Nat → Bool} {held : Bool}
theorem list3 {α : Type} {cs : List α} (h : cs.length = 3) : ∃ c0 c1 c2, cs = [c0, c1, c2] := by
  match cs, h with
  | [c0, c1, c2], _ => exact ⟨c0, c1, c2, rfl⟩
theorem list5 {α : Type} {cs : List α} (h : cs.length = 5) : ∃ c0 c1 c2 c3 c4, cs = [c0, c1, c2, c3, c4] := by
  match cs, h with
  | [c0, c1, c2, c3, c4], _ => exact ⟨c0, c1, c2, c3, c4, rfl⟩
/-! a vernier -/
theorem cellsBool : Try.prog.cellsOf 4 = 1 := by kernel_rfl
theorem trod_bool_mk' {b : Bool} (m : Nat) : DataW.trod enc Try.prog W base spare held (m + 1) 4 [.bool b] = some (.lit (.bool b), []) := by
  obtain ⟨k, hk⟩ := shut_bool (enc := enc) (w := W) (base := base) (spare := spare) (held := held) Try.underlying4 b
  simp [DataW.trod, Try.underlying4]
/-! a spindle -/
/-! a screw -/
end
end Go.Proofs.Ytjhlpaeenjbljaa
