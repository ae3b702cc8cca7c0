/- Closed facts of the program, reckoned by the kernel: the words of its head first. -/
import Derived.Test.YtgfopfomhgfcaaaGreatDoorRows
import Derived.KernelRfl
import Derived.JoinedOf
namespace Go.Proofs.YtgfopfomhgfcaaaGreatDoor

def headSigns : List Char := [Char.ofNat 104, Char.ofNat 97, Char.ofNat 114, Char.ofNat 110, Char.ofNat 101, Char.ofNat 115, Char.ofNat 115, Char.ofNat 32, Char.ofNat 56, Char.ofNat 57, Char.ofNat 53, Char.ofNat 53, Char.ofNat 100, Char.ofNat 53, Char.ofNat 49, Char.ofNat 52, Char.ofNat 99, Char.ofNat 56, Char.ofNat 51, Char.ofNat 54, Char.ofNat 99, Char.ofNat 54, Char.ofNat 55, Char.ofNat 49, Char.ofNat 49, Char.ofNat 48, Char.ofNat 48, Char.ofNat 97, Char.ofNat 97, Char.ofNat 49, Char.ofNat 57, Char.ofNat 48, Char.ofNat 57, Char.ofNat 101, Char.ofNat 54, Char.ofNat 48, Char.ofNat 99, Char.ofNat 48, Char.ofNat 49, Char.ofNat 51, Char.ofNat 50, Char.ofNat 50, Char.ofNat 52, Char.ofNat 57, Char.ofNat 54, Char.ofNat 51, Char.ofNat 102, Char.ofNat 101, Char.ofNat 57, Char.ofNat 51, Char.ofNat 52, Char.ofNat 99, Char.ofNat 57, Char.ofNat 52, Char.ofNat 51, Char.ofNat 52, Char.ofNat 53, Char.ofNat 53, Char.ofNat 101, Char.ofNat 49, Char.ofNat 100, Char.ofNat 56, Char.ofNat 50, Char.ofNat 97, Char.ofNat 56, Char.ofNat 98, Char.ofNat 49, Char.ofNat 56, Char.ofNat 53, Char.ofNat 48, Char.ofNat 53, Char.ofNat 52, Char.ofNat 32, Char.ofNat 99, Char.ofNat 117, Char.ofNat 116, Char.ofNat 32, Char.ofNat 97, Char.ofNat 116, Char.ofNat 32, Char.ofNat 108, Char.ofNat 111, Char.ofNat 111, Char.ofNat 112, Char.ofNat 46, Char.ofNat 101, Char.ofNat 120, Char.ofNat 97, Char.ofNat 109, Char.ofNat 112, Char.ofNat 108, Char.ofNat 101, Char.ofNat 47, Char.ofNat 103, Char.ofNat 48, Char.ofNat 49, Char.ofNat 50, Char.ofNat 53, Char.ofNat 52, Char.ofNat 47, Char.ofNat 108, Char.ofNat 97, Char.ofNat 119, Char.ofNat 115, Char.ofNat 46, Char.ofNat 70, Char.ofNat 110, Char.ofNat 69, Char.ofNat 120, Char.ofNat 97, Char.ofNat 99, Char.ofNat 116, Char.ofNat 66, Char.ofNat 101, Char.ofNat 110, Char.ofNat 99, Char.ofNat 104, Char.ofNat 84, Char.ofNat 101, Char.ofNat 120, Char.ofNat 116, Char.ofNat 32, Char.ofNat 108, Char.ofNat 111, Char.ofNat 111, Char.ofNat 112, Char.ofNat 46, Char.ofNat 101, Char.ofNat 120, Char.ofNat 97, Char.ofNat 109, Char.ofNat 112, Char.ofNat 108, Char.ofNat 101, Char.ofNat 47, Char.ofNat 103, Char.ofNat 48, Char.ofNat 49, Char.ofNat 50, Char.ofNat 53, Char.ofNat 52, Char.ofNat 47, Char.ofNat 108, Char.ofNat 97, Char.ofNat 119, Char.ofNat 115, Char.ofNat 46, Char.ofNat 70, Char.ofNat 110, Char.ofNat 69, Char.ofNat 120, Char.ofNat 97, Char.ofNat 99, Char.ofNat 116, Char.ofNat 82, Char.ofNat 101, Char.ofNat 97, Char.ofNat 100, Char.ofNat 83, Char.ofNat 99, Char.ofNat 97, Char.ofNat 108, Char.ofNat 101, Char.ofNat 32, Char.ofNat 108, Char.ofNat 111, Char.ofNat 111, Char.ofNat 112, Char.ofNat 46, Char.ofNat 101, Char.ofNat 120, Char.ofNat 97, Char.ofNat 109, Char.ofNat 112, Char.ofNat 108, Char.ofNat 101, Char.ofNat 47, Char.ofNat 103, Char.ofNat 48, Char.ofNat 49, Char.ofNat 50, Char.ofNat 53, Char.ofNat 52, Char.ofNat 47, Char.ofNat 108, Char.ofNat 97, Char.ofNat 119, Char.ofNat 115, Char.ofNat 46, Char.ofNat 70, Char.ofNat 110, Char.ofNat 69, Char.ofNat 120, Char.ofNat 97, Char.ofNat 99, Char.ofNat 116, Char.ofNat 82, Char.ofNat 101, Char.ofNat 97, Char.ofNat 100, Char.ofNat 84, Char.ofNat 97, Char.ofNat 98, Char.ofNat 108, Char.ofNat 101, Char.ofNat 32, Char.ofNat 108, Char.ofNat 111, Char.ofNat 111, Char.ofNat 112, Char.ofNat 46, Char.ofNat 101, Char.ofNat 120, Char.ofNat 97, Char.ofNat 109, Char.ofNat 112, Char.ofNat 108, Char.ofNat 101, Char.ofNat 47, Char.ofNat 103, Char.ofNat 48, Char.ofNat 49, Char.ofNat 50, Char.ofNat 53, Char.ofNat 52, Char.ofNat 47, Char.ofNat 108, Char.ofNat 97, Char.ofNat 119, Char.ofNat 115, Char.ofNat 46, Char.ofNat 70, Char.ofNat 110, Char.ofNat 69, Char.ofNat 120, Char.ofNat 97, Char.ofNat 99, Char.ofNat 116, Char.ofNat 82, Char.ofNat 101, Char.ofNat 97, Char.ofNat 100, Char.ofNat 66, Char.ofNat 101, Char.ofNat 110, Char.ofNat 99, Char.ofNat 104]
theorem head_str : Tryz.pinned.checked.prog.initOrder = String.ofList headSigns := by kernel_rfl
theorem head_list : Tryz.pinned.checked.prog.initOrder.toList = headSigns := by rw [head_str, String.toList_ofList]
theorem head_lifts : Tryz.pinned.checked.prog.headLifts = [] := by
  unfold Program.headLifts
  rw [head_list]
  kernel_rfl
theorem fact_final : Tryz.pinned.checked.prog.liftsFinal = false := by
  unfold Program.liftsFinal
  rw [head_list, head_lifts]
  kernel_rfl
theorem head_words : behindMainWord (wordsSigns headSigns) = "cut".toList :: (behindMainWord (wordsSigns headSigns)).tail := by kernel_rfl
end Go.Proofs.YtgfopfomhgfcaaaGreatDoor
namespace Go.Proofs.YtgfopfomhgfcaaaGreatDoor
theorem cut_gc : ("cut".toList == "gc".toList) = false := by decide +kernel
theorem cut_spec : ("cut".toList == "spec".toList) = false := by decide +kernel
theorem cut_carried : ("cut".toList == "carried".toList) = false := by decide +kernel
theorem make_of (P : Program) (T : List (List Char)) (h : behindMainWord (wordsSigns P.initOrder.toList) = "cut".toList :: T) : P.make = some .cut := by
  unfold Program.make
  rw [h]
  show (if ("cut".toList == "gc".toList || "cut".toList == "spec".toList) = true then some Make.whole else _) = _
  rw [cut_gc, cut_spec]
  simp
theorem enters_of (P : Program) (T : List (List Char)) (h : behindMainWord (wordsSigns P.initOrder.toList) = "cut".toList :: T) (hs : stripLifts liftWords ("cut".toList :: T) = ([], "cut".toList :: T))
    (h1 : P.laysLater = false) (h2 : P.bearsReflect = false) (h3 : P.doorFits [] = true) : P.mayEnter = true := by
  unfold Program.mayEnter
  rw [h]
  simp only [hs, h1, h2, h3]
  simp
theorem head_of : behindMainWord (wordsSigns Tryz.pinned.checked.prog.initOrder.toList) = "cut".toList :: (behindMainWord (wordsSigns headSigns)).tail := by rw [head_list]; exact head_words
theorem laysL : Tryz.pinned.checked.prog.laysLater = false := by kernel_rfl
theorem bearsR : Tryz.pinned.checked.prog.bearsReflect = false := by kernel_rfl
theorem doorF : Tryz.pinned.checked.prog.doorFits [] = true := by kernel_rfl
theorem strip0 : stripLifts liftWords ("cut".toList :: (behindMainWord (wordsSigns headSigns)).tail) = ([], "cut".toList :: (behindMainWord (wordsSigns headSigns)).tail) := by kernel_rfl
theorem fact_make : Tryz.pinned.checked.prog.make = some .cut := make_of _ _ head_of
theorem fact_enters : Tryz.pinned.checked.prog.mayEnter = true := enters_of _ _ head_of strip0 laysL bearsR doorF
end Go.Proofs.YtgfopfomhgfcaaaGreatDoor
