/- WALKS: MeanOf, of the program and of the reference. -/
import Derived.Test.YtpadjkgbeijkpaaDoorFu
namespace Go.Proofs.YtpadjkgbeijkpaaDoor
open Go.RowKit Go.Sort

theorem setk_old {w : World} {g j i1 i2 : Nat} {a b : Value} {o : Obj} (h : w.heap[j]? = some o) (hn : j ≠ g) :
    ((w.setCell ⟨g, i1, none⟩ a).setCell ⟨g, i2, none⟩ b).heap[j]? = some o := by
  rw [Below.heap_setCell _ _ _ _ hn, Below.heap_setCell _ _ _ _ hn, h]
theorem ok_count {n : Int} (h1 : 1 ≤ n) (h2 : n ≤ 64) : okB n 1 = true := by
  rw [okB_iff]
  unfold Ok
  refine ⟨by omega, by omega, by omega, by omega, ?_⟩
  simp
theorem sm_ok : ∀ (xs : List (Int × Int)) (P Q A B : Int), okB P Q = true → sm xs P Q = some (A, B) → okB A B = true
  | [], P, Q, A, B, h, hs => by
    have hs' : (P, Q) = (A, B) := Option.some.inj hs
    have e1 : P = A := congrArg Prod.fst hs'
    have e2 : Q = B := congrArg Prod.snd hs'
    subst e1 e2; exact h
  | (p, q) :: r, P, Q, A, B, h, hs => by
    unfold sm at hs
    by_cases hb : okB (redP (P*q+p*Q) (Q*q)) (redQ (P*q+p*Q) (Q*q)) = true
    · rw [if_pos hb] at hs; exact sm_ok r _ _ A B hb hs
    · rw [if_neg hb] at hs; cases hs
theorem lst_len {xs : List (Int × Int)} (h : lstC xs 1 = 0) : 1 ≤ (xs.length : Int) ∧ (xs.length : Int) ≤ 64 := by
  have ha := lst_all h
  unfold lstC at h
  rw [if_pos ha] at h
  by_cases h1 : 64 < (xs.length : Int) ∨ (xs.length : Int) < 1
  · rw [if_pos h1] at h; cases h
  · omega
/-- The mean, from the sum, of so many. -/
def meP (n A B : Int) : Int := redP (A * 1) (B * n)
def meQ (n A B : Int) : Int := redQ (A * 1) (B * n)
def mn (n : Int) : Option (Int × Int) → Option (Int × Int)
  | some (A, B) => if okB (meP n A B) (meQ n A B) then some (meP n A B, meQ n A B) else none
  | none => none

end Go.Proofs.YtpadjkgbeijkpaaDoor
namespace Go.Proofs.YtpadjkgbeijkpaaDoor
open Go.RowKit Go.Sort

end Go.Proofs.YtpadjkgbeijkpaaDoor
