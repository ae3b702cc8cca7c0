/- WALKS: whole parts of fractions; a fraction is looked at. -/
import Derived.Test.YtgfopfomhgfcaaaGreatDoorE
import Derived.Test.YtgfopfomhgfcaaaGreatDoorB
import Derived.Test.YtgfopfomhgfcaaaGreatDoorIs
namespace Go.Proofs.YtgfopfomhgfcaaaGreatDoor
open Go.RowKit Go.Sort

def downI (p q : Int) : Int := if p.tmod q < 0 then p.tdiv q - 1 else p.tdiv q
theorem tmod_bd (p q : Int) (h1 : -4000000000000000000 ≤ p) (h2 : p ≤ 4000000000000000000) : -4000000000000000000 ≤ p.tmod q ∧ p.tmod q ≤ 4000000000000000000 := by
  have e : (p.tmod q).natAbs = p.natAbs % q.natAbs := Int.natAbs_tmod p q
  have := Nat.mod_le p.natAbs q.natAbs
  omega
theorem tdiv_bd' (p q : Int) (h1 : -4000000000000000000 ≤ p) (h2 : p ≤ 4000000000000000000) : -4000000000000000000 ≤ p.tdiv q ∧ p.tdiv q ≤ 4000000000000000000 := by
  have e : (p.tdiv q).natAbs = p.natAbs / q.natAbs := by rw [Int.natAbs_tdiv]; rfl
  have := Nat.div_le_self p.natAbs q.natAbs
  omega

end Go.Proofs.YtgfopfomhgfcaaaGreatDoor
namespace Go.Proofs.YtgfopfomhgfcaaaGreatDoor
open Go.RowKit Go.Sort

def okSec (s : Int) : Bool := decide (1 ≤ s) && decide (s ≤ 1296000)
def secB (xs : List Int) : Bool := (decide (1 ≤ xs.length) && decide (xs.length ≤ 72)) && xs.all okSec
def clo (xs : List Int) : Int := xs.foldl (· + ·) (-1296000)
theorem allI_take {f : Int → Bool} {xs : List Int} {k : Nat} {x : Int} (h : xs[k]? = some x) (ha : (xs.take k).all f = true) (hx : f x = true) : (xs.take (k + 1)).all f = true := by
  rw [List.take_add_one, h]
  simp only [Option.toList_some, List.all_append, ha, List.all_cons, List.all_nil, hx, Bool.and_true]
theorem allI_not {f : Int → Bool} {xs : List Int} {k : Nat} {x : Int} (h : xs[k]? = some x) (hx : f x = false) : xs.all f = false := by
  cases ha : xs.all f with
  | false => rfl
  | true =>
    have := List.all_eq_true.1 ha x (List.mem_of_getElem? h)
    rw [hx] at this; cases this
theorem allI_get {f : Int → Bool} {xs : List Int} {k : Nat} {x : Int} (h : xs[k]? = some x) (ha : xs.all f = true) : f x = true :=
  List.all_eq_true.1 ha x (List.mem_of_getElem? h)
theorem clo_step {xs : List Int} {k : Nat} {x : Int} (h : xs[k]? = some x) : clo (xs.take (k + 1)) = clo (xs.take k) + x := by
  unfold clo
  rw [List.take_add_one, h]
  simp [List.foldl_append]
theorem clo_bd : ∀ (xs : List Int) (k : Nat), xs.all okSec = true → k ≤ xs.length → -1296000 ≤ clo (xs.take k) ∧ clo (xs.take k) ≤ -1296000 + 1296000 * (k : Int)
  | xs, 0, _, _ => by simp [clo]
  | xs, k + 1, h, hk => by
    obtain ⟨x, hx⟩ : ∃ x, xs[k]? = some x := ⟨xs[k], List.getElem?_eq_getElem _⟩
    have h1 := clo_bd xs k h (by omega)
    have h2 := allI_get hx h
    rw [clo_step hx]
    unfold okSec at h2
    simp at h2
    omega
theorem sec_parts {xs : List Int} (h : secB xs = true) : 1 ≤ xs.length ∧ xs.length ≤ 72 ∧ xs.all okSec = true := by
  unfold secB at h
  simp only [Bool.and_eq_true, decide_eq_true_eq] at h
  exact ⟨h.1.1, h.1.2, h.2⟩

end Go.Proofs.YtgfopfomhgfcaaaGreatDoor
