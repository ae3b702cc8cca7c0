/- WALKS: lists of fractions: counted, compared, checked and summed; the reference. -/
import Derived.Test.YtkeflpcokcfcjaaDoorFs
import Derived.Test.YtkeflpcokcfcjaaDoorH
import Derived.Test.YtkeflpcokcfcjaaDoorN
import Derived.Test.YtkeflpcokcfcjaaDoorB0
namespace Go.Proofs.YtkeflpcokcfcjaaDoor
open Go.RowKit Go.Sort

abbrev sl (g n : Nat) : Value := .slice (some ⟨g, 0, none⟩) n n
/-- The code of a list that must have at least so many. -/
def lstC (xs : List (Int × Int)) (least : Int) : Int := if xs.all (fun x => okB x.1 x.2) then (if 64 < (xs.length : Int) ∨ (xs.length : Int) < least then 2 else 0) else 1
theorem all_take {xs : List (Int × Int)} {k : Nat} {x : Int × Int} (h : xs[k]? = some x) (ha : (xs.take k).all (fun x => okB x.1 x.2) = true) (hx : okB x.1 x.2 = true) : (xs.take (k + 1)).all (fun x => okB x.1 x.2) = true := by
  rw [List.take_add_one, h]
  simp only [Option.toList_some, List.all_append, ha, List.all_cons, List.all_nil, hx, Bool.and_true]
theorem all_not {xs : List (Int × Int)} {k : Nat} {x : Int × Int} (h : xs[k]? = some x) (hx : okB x.1 x.2 = false) : xs.all (fun x => okB x.1 x.2) = false := by
  cases ha : xs.all (fun x => okB x.1 x.2) with
  | false => rfl
  | true =>
    have := List.all_eq_true.1 ha x (List.mem_of_getElem? h)
    rw [hx] at this; cases this
/-- The sum of P / Q and a list, as far as it can be told. -/
def sm : List (Int × Int) → Int → Int → Option (Int × Int)
  | [], P, Q => some (P, Q)
  | (p, q) :: r, P, Q => if okB (redP (P*q+p*Q) (Q*q)) (redQ (P*q+p*Q) (Q*q)) then sm r (redP (P*q+p*Q) (Q*q)) (redQ (P*q+p*Q) (Q*q)) else none
theorem sm_step {xs : List (Int × Int)} {k : Nat} {p q P Q : Int} (h : xs[k]? = some (p, q)) :
    sm (xs.drop k) P Q = if okB (redP (P*q+p*Q) (Q*q)) (redQ (P*q+p*Q) (Q*q)) then sm (xs.drop (k + 1)) (redP (P*q+p*Q) (Q*q)) (redQ (P*q+p*Q) (Q*q)) else none := by
  have hk : k < xs.length := (List.getElem?_eq_some_iff.1 h).1
  have e : xs[k] = (p, q) := (List.getElem?_eq_some_iff.1 h).2
  rw [List.drop_eq_getElem_cons hk, e]
  rfl
theorem all_get {xs : List (Int × Int)} {k : Nat} {p q : Int} (h : xs[k]? = some (p, q)) (ha : xs.all (fun x => okB x.1 x.2) = true) : okB p q = true :=
  List.all_eq_true.1 ha (p, q) (List.mem_of_getElem? h)
def smV : Option (Int × Int) → Value
  | some (P, Q) => .tuple #[fr P Q, .int .i64 0]
  | none => .tuple #[fr 0 0, .int .i64 3]
theorem ok01 : okB 0 1 = true := by decide
end Go.Proofs.YtkeflpcokcfcjaaDoor
namespace Go.Proofs.YtkeflpcokcfcjaaDoor
open Go.RowKit Go.Sort

theorem gt01 : gtB 0 1000000000 = false := by decide
/-! what is told of a list -/
theorem lst_all {xs : List (Int × Int)} {l : Int} (h : lstC xs l = 0) : xs.all (fun x => okB x.1 x.2) = true := by
  cases ha : xs.all (fun x => okB x.1 x.2) with
  | true => rfl
  | false => unfold lstC at h; rw [ha] at h; simp at h
theorem smV_form (r : Option (Int × Int)) : ∃ P Q C : Int, smV r = .tuple #[fr P Q, .int .i64 C] := by
  cases r with
  | none => exact ⟨0, 0, 3, rfl⟩
  | some r => exact ⟨r.1, r.2, 0, rfl⟩
end Go.Proofs.YtkeflpcokcfcjaaDoor
