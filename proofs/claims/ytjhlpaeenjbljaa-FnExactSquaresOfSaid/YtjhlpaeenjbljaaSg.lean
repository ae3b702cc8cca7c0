/- WALKS: closing errors that are shared out evenly: the program, and both sides joined. -/
import Derived.Test.YtjhlpaeenjbljaaSf
namespace Go.Proofs.Ytjhlpaeenjbljaa
open Go.RowKit Go.Sort

theorem sm_okE : ∀ (xs : List (Int × Int)) (P Q A B : Int), okB P Q = true → sm xs P Q = some (A, B) → okB A B = true
  | [], P, Q, A, B, h, hs => by
    have hs' : (P, Q) = (A, B) := Option.some.inj hs
    have e1 : P = A := congrArg Prod.fst hs'
    have e2 : Q = B := congrArg Prod.snd hs'
    subst e1 e2; exact h
  | (p, q) :: r, P, Q, A, B, h, hs => by
    unfold sm at hs
    by_cases hb : okB (redP (P*q+p*Q) (Q*q)) (redQ (P*q+p*Q) (Q*q)) = true
    · rw [if_pos hb] at hs; exact sm_okE r _ _ A B hb hs
    · rw [if_neg hb] at hs; cases hs
theorem lst1 (xs : List (Int × Int)) : lstC xs 1 = if allF xs = true then (if rng64 xs.length = true then 0 else 2) else 1 := by
  unfold lstC allF rng64 inB
  by_cases h : xs.all (fun x => okB x.1 x.2) = true
  · rw [if_pos h, if_pos h]
    by_cases h1 : (1 : Int) ≤ xs.length
    · by_cases h2 : (xs.length : Int) ≤ 64
      · rw [if_neg (by omega), if_pos (by simp [h1, h2])]
      · rw [if_pos (by omega), if_neg (by simp [h2])]
    · rw [if_pos (by omega), if_neg (by simp; omega)]
  · rw [if_neg h, if_neg h]
theorem pickF {w w' : World} {e : Ending} {p : Prop} {ys : List (Int × Int)} (h : (p ∧ GivesF w w' e ys 0) ∨ (¬ p ∧ GivesF w w' e [] 3)) : (p → GivesF w w' e ys 0) ∧ (¬ p → GivesF w w' e [] 3) :=
  ⟨fun hp => h.elim (fun h => h.2) (fun h => absurd hp h.1), fun hp => h.elim (fun h => absurd h.1 hp) (fun h => h.2)⟩
end Go.Proofs.Ytjhlpaeenjbljaa
