/- WALKS: WidthOf and InSpan, of the program and of the reference. -/
import Derived.Test.YtnbdafecgccojaaT
namespace Go.Proofs.Ytnbdafecgccojaa
open Go.RowKit Go.Sort

theorem sok_t (p q : Int) (w : World) (h : okB p q = true) : Calls Try.prog 79 #[fr p q] w fun e w' => e = .returned (.bool true) ∧ Gr w w' :=
  (sok_any p q w).mono fun e w' ⟨he, hg⟩ => ⟨by rw [he, h], hg⟩
theorem sok_f (p q : Int) (w : World) (h : okB p q = false) : Calls Try.prog 79 #[fr p q] w fun e w' => e = .returned (.bool false) ∧ Gr w w' :=
  (sok_any p q w).mono fun e w' ⟨he, hg⟩ => ⟨by rw [he, h], hg⟩
/-- What is told of a fraction that is calculated. -/
theorem told_rV (f : Nat) (cap : Array Value) (n d : Int) (w : World) (hen : ∀ w, (callFunc f cap).run Try.prog w = .ok (.enter f cap) w)
    (h0 : okB (redP n d) (redQ n d) = true → ∀ w', Gr w w' → Calls Try.prog f cap w' fun e w'' => e = .returned (fr (redP n d) (redQ n d)) ∧ Gr w' w'')
    (h1 : okB (redP n d) (redQ n d) = false → ∀ w', Gr w w' → Calls Try.prog f cap w' fun e w'' => (∃ x y, e = .panicked [{ v := .iface 212 (fr x y), recovered := false }]) ∧ Gr w' w'') :
    Calls Try.prog 75 #[.func (.func f) #[] cap] w fun e w' => e = .returned (.tuple #[fr (rP n d) (rQ n d), .int .i64 (rC n d)]) ∧ Gr w w' := by
  unfold rP rQ rC
  cases k1 : okB (redP n d) (redQ n d) with
  | false => exact told_great_F f cap w hen (h1 k1)
  | true => exact told_ok_F f cap _ _ w hen (h0 k1)
/-! InSpan -/
def liesB (a b c d p q : Int) : Bool := decide (cmpI a b p q ≤ 0) && decide (cmpI p q c d ≤ 0)
end Go.Proofs.Ytnbdafecgccojaa
