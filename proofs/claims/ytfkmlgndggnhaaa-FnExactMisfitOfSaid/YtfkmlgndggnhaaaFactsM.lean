/- Closed facts of the program. -/
import Derived.Test.YtfkmlgndggnhaaaFacts
namespace Go.Proofs.Ytfkmlgndggnhaaa
theorem cut_gc : ("cut".toList == "gc".toList) = false := by decide +kernel
theorem cut_spec : ("cut".toList == "spec".toList) = false := by decide +kernel
theorem cut_carried : ("cut".toList == "carried".toList) = false := by decide +kernel
theorem make_of (P : Program) (T : List (List Char)) (h : behindMainWord (wordsSigns P.initOrder.toList) = "cut".toList :: T) : P.make = some .cut := by
  unfold Program.make
  rw [h]
  show (if ("cut".toList == "gc".toList || "cut".toList == "spec".toList) = true then some Make.whole else _) = _
  rw [cut_gc, cut_spec]
  simp
theorem enters_of (P : Program) (T : List (List Char)) (h : behindMainWord (wordsSigns P.initOrder.toList) = "cut".toList :: T) (hs : stripLifts liftWords ("cut".toList :: T) = ([], "cut".toList :: T))
    (h1 : P.laysLater = false) (h2 : P.bearsReflect = false) (h3 : P.doorFits [] = true) : P.mayEnter = true := by
  unfold Program.mayEnter
  rw [h]
  simp only [hs, h1, h2, h3]
  simp
theorem head_of : behindMainWord (wordsSigns Try.pinned.checked.prog.initOrder.toList) = "cut".toList :: (behindMainWord (wordsSigns headSigns)).tail := by rw [head_list]; exact head_words
theorem laysL : Try.pinned.checked.prog.laysLater = false := by kernel_rfl
theorem bearsR : Try.pinned.checked.prog.bearsReflect = false := by kernel_rfl
theorem doorF : Try.pinned.checked.prog.doorFits [] = true := by kernel_rfl
theorem strip0 : stripLifts liftWords ("cut".toList :: (behindMainWord (wordsSigns headSigns)).tail) = ([], "cut".toList :: (behindMainWord (wordsSigns headSigns)).tail) := by kernel_rfl
theorem fact_make : Try.pinned.checked.prog.make = some .cut := make_of _ _ head_of
theorem fact_enters : Try.pinned.checked.prog.mayEnter = true := enters_of _ _ head_of strip0 laysL bearsR doorF
end Go.Proofs.Ytfkmlgndggnhaaa
