/- A law of no program: append of a slice of no elements. -/
import Derived.Test.YtgfopfomhgfcaaaGreatDoorFm
import Derived.Lib.AppendZeros
namespace Go.Proofs.YtgfopfomhgfcaaaGreatDoor
open Go.RowKit Go.Sort

section
variable {P : Program}
theorem run_append_zero {w : World} (t ty e : TypeId) (i : TypeInfo) (ht : P.underlying t = some (.slice e)) (hi : P.info? e = some i) (base : Option Addr) (n c : Nat) (hn : n ≤ c) (bx : Option Addr) (cx : Nat) :
    (Builtin.append_ #[t, t] ty #[.slice base n c, .slice bx 0 cx]).run P w = .ok (.slice base n c) w := by
  have hf : (Builtin.firstCells i.size 0 (.slice bx 0 cx)).run P w = .ok #[] w := by
    cases bx with
    | none => exact run_firstCells_none w i.size 0 0 cx
    | some a => exact run_firstCells_some (P := P) w i.size 0 a 0 cx [] (by simp) (fun j u hj => by simp at hj)
  cases base <;> simp [Builtin.append_, run_underlying ht, sizeOf, typeInfo, hi, Builtin.lenOf, hn, hf, storeCells]
theorem wpList_append_zero {w : World} {ops : Array Oper} {rest : List Oper} {o : Oper} {a : Act} {Q : Exit → Act → World → Prop} (hgd : o.guard = none) (s x : Operand) (t : TypeId)
    (ho : o.op = .call { callee := .builtin .append, args := #[s, x], argTypes := #[t, t] })
    (e : TypeId) (i : TypeInfo) (ht : P.underlying t = some (.slice e)) (hi : P.info? e = some i) (base : Option Addr) (n c : Nat) (hn : n ≤ c) (bx : Option Addr) (m cx : Nat) (hm : m = 0) (hs : a.eval s = .slice base n c) (hx : a.eval x = .slice bx m cx)
    (h : wpList P ops Q rest (a.put o.dst (.slice base (n + m) c)) w) : wpList P ops Q (o :: rest) a w := by
  subst hm
  exact Lib.wpList_append_run w hgd s x t t ho _ _ hs hx _ _ (run_append_zero t o.type e i ht hi base n c hn bx cx) h
end
theorem own_le {w : World} {base : Nat} {e : TypeId} {size n c : Nat} {A : Option Addr} {xs : List Value} (h : w.ownsRow base e size (.slice A n c) n xs) : n ≤ c := by
  rcases h.2 with ⟨h1, h2⟩ | ⟨g, cap, cur, h1, _, _, h4, _⟩
  · subst h2; exact Nat.zero_le _
  · injection h1 with e1 e2 e3
    subst e3
    exact h4
/-- A slice of a row's cells, as it is read. -/
def RdV (w : World) (A : Option Addr) (us : List Value) : Prop := us = [] ∨ ∃ ad, A = some ad ∧ ∀ (j : Nat) (u : Value), us[j]? = some u → w.cell? (ad.add j) = some u
theorem RdV.keep {w w' : World} {A : Option Addr} {us : List Value} (h : RdV w A us) (hg : Gr w w') : RdV w' A us := by
  rcases h with h | ⟨ad, h1, h2⟩
  · exact .inl h
  · refine .inr ⟨ad, h1, fun j u hj => ?_⟩
    exact (hg.cellI (World.block_lt_of_cell? _ _ (h2 j u hj))).trans (h2 j u hj)
theorem RdV.nil (w : World) (A : Option Addr) : RdV w A [] := .inl rfl
end Go.Proofs.YtgfopfomhgfcaaaGreatDoor
