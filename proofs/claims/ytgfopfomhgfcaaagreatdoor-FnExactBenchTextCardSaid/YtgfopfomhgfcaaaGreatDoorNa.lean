/- CodeName: the program and the reference; arrays that read as listed texts or numbers. -/
import Derived.Test.YtgfopfomhgfcaaaGreatDoorX1
import Derived.Lib.LaidTab
import Derived.Stop.LaidErr
namespace Go.Proofs.YtgfopfomhgfcaaaGreatDoor
open Go.RowKit Go.Sort

/-- The names of codes. -/
def cnL : List (List UInt8) := [[111, 107], [105, 110, 118, 97, 108, 105, 100], [114, 97, 110, 103, 101], [108, 105, 109, 105, 116], [115, 116, 97, 116, 101], [115, 121, 110, 116, 97, 120], [110, 111, 116, 102, 111, 117, 110, 100], [98, 117, 100, 103, 101, 116], [112, 114, 111, 111, 102]]
def cnB (k : Nat) : ByteArray := ⟨(cnL.getD k []).toArray⟩
def cnC : Array Value := (cnL.map fun l => Value.string ⟨l.toArray⟩).toArray
theorem cnC_get (k : Nat) (h : k < 9) : cnC[k]? = some (.string (cnB k)) := by
  match k, h with
  | 0, _ => rfl
  | 1, _ => rfl
  | 2, _ => rfl
  | 3, _ => rfl
  | 4, _ => rfl
  | 5, _ => rfl
  | 6, _ => rfl
  | 7, _ => rfl
  | 8, _ => rfl
/-- What CodeName gives. -/
def codeB (c : Int) : ByteArray := if 0 ≤ c ∧ c < 9 then cnB c.toNat else ⟨#[]⟩
end Go.Proofs.YtgfopfomhgfcaaaGreatDoor
