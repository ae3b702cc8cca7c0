/- NAMES THAT ARE KNOWN: a map from names to bool, of the call's own. -/
import Derived.Test.YtgfopfomhgfcaaaGreatDoorIs
import Derived.Test.YtgfopfomhgfcaaaGreatDoorB0
import Derived.WideKeyEntry
namespace Go.Proofs.YtgfopfomhgfcaaaGreatDoor
open Go.RowKit Go.Sort

/-- The entries of a map with the names D, in the order in which they came: each has its place. -/
def entsK : Nat → List ByteArray → List MapEntry
  | _, [] => []
  | b, s :: r => ⟨.string s, .bool true, b⟩ :: entsK (b + 1) r
theorem entsK_len : ∀ (b : Nat) (D : List ByteArray), (entsK b D).length = D.length
  | _, [] => rfl
  | b, s :: r => by simp [entsK, entsK_len (b + 1) r]
theorem entsK_app (s : ByteArray) : ∀ (D : List ByteArray) (b : Nat), entsK b (D ++ [s]) = entsK b D ++ [⟨.string s, .bool true, b + D.length⟩]
  | [], b => by simp [entsK]
  | y :: r, b => by
    have := entsK_app s r (b + 1)
    simp only [List.cons_append, entsK, this, List.length_cons]
    rw [show b + (r.length + 1) = b + 1 + r.length by omega]
def mapK (D : List ByteArray) : Obj := .map (entsK 0 D).toArray D.length
theorem strEqK (a b : ByteArray) : (a == b) = true ↔ a = b := by
  obtain ⟨x⟩ := a; obtain ⟨y⟩ := b
  constructor
  · intro h
    have : (x == y) = true := h
    exact congrArg _ (by simpa using this)
  · intro h
    cases h
    show (x == x) = true
    simp
theorem findNowK (s : ByteArray) : ∀ (D : List ByteArray) (b i : Nat),
    (∃ j : Nat, D[j]? = some s ∧ (∀ k, k < j → D[k]? ≠ some s) ∧ Instr.findNow .string (.string s) (entsK b D) i = some (some (i + j, .bool true))) ∨ (s ∉ D ∧ Instr.findNow .string (.string s) (entsK b D) i = some none)
  | [], b, i => .inr ⟨by simp, rfl⟩
  | y :: r, b, i => by
    by_cases h : s = y
    · subst h
      have e : (s == s) = true := (strEqK s s).2 rfl
      exact .inl ⟨0, rfl, fun k hk => by omega, by simp [entsK, Instr.findNow, Instr.sameNow, e]⟩
    · have e : (s == y) = false := by
        cases he : (s == y) with
        | false => rfl
        | true => exact absurd ((strEqK s y).1 he) h
      rcases findNowK s r (b + 1) (i + 1) with ⟨j, h1, h2, h3⟩ | ⟨h1, h2⟩
      · refine .inl ⟨j + 1, by simpa using h1, fun k hk => ?_, ?_⟩
        · cases k with
          | zero => simpa using fun h' => h h'.symm
          | succ k => simpa using h2 k (by omega)
        · simp only [entsK, Instr.findNow, Instr.sameNow, e]
          rw [show i + (j + 1) = i + 1 + j by omega]
          exact h3
      · refine .inr ⟨by simp [h, h1], ?_⟩
        simp only [entsK, Instr.findNow, Instr.sameNow, e]
        exact h2
theorem keyOkK (b : Bool) (s : ByteArray) (w : World) : (Instr.checkKey b 10000 9 (.string s)).run Tryz.prog w = .ok () w := by kernel_rfl
theorem findK (s : ByteArray) (D : List ByteArray) :
    (∃ j : Nat, D[j]? = some s ∧ (∀ k, k < j → D[k]? ≠ some s) ∧ ∀ w, (Instr.findKey 9 (.string s) (entsK 0 D)).run Tryz.prog w = .ok (some (j, .bool true)) w) ∨ (s ∉ D ∧ ∀ w, (Instr.findKey 9 (.string s) (entsK 0 D)).run Tryz.prog w = .ok none w) := by
  have hu : Tryz.prog.underlying 9 = some .string := by kernel_rfl
  rcases findNowK s D 0 0 with ⟨j, h1, h2, h3⟩ | ⟨h1, h2⟩
  · rw [Nat.zero_add] at h3
    exact .inl ⟨j, h1, h2, fun w => by simp [Instr.findKey, run_underlying hu, h3, Result.andThen]⟩
  · exact .inr ⟨h1, fun w => by simp [Instr.findKey, run_underlying hu, h2, Result.andThen]⟩
/-- A look-up. -/
theorem lookK (s : ByteArray) (D : List ByteArray) (m : Nat) :
    (∃ j : Nat, D[j]? = some s ∧ (∀ k, k < j → D[k]? ≠ some s) ∧ ∀ w : World, w.heap[m]? = some (mapK D) → (Instr.lookup 131 (.map (some m)) (.string s) false).run Tryz.prog w = .ok (.bool true) w) ∨
    (s ∉ D ∧ ∀ w : World, w.heap[m]? = some (mapK D) → (Instr.lookup 131 (.map (some m)) (.string s) false).run Tryz.prog w = .ok (.bool false) w) := by
  have hu : Tryz.prog.underlying 131 = some (.map 9 4) := by kernel_rfl
  have hz : ∀ w, (zeroValue 4).run Tryz.prog w = .ok (.bool false) w := fun w => by kernel_rfl
  rcases findK s D with ⟨j, h1, h2, hj⟩ | ⟨hn, hj⟩
  · refine .inl ⟨j, h1, h2, fun w hm => ?_⟩
    unfold mapK at hm
    simp [Instr.lookup, run_underlying hu, MapKept.run_getObj_map hm, keyOkK, hj, Result.andThen]
  · refine .inr ⟨hn, fun w hm => ?_⟩
    unfold mapK at hm
    simp [Instr.lookup, run_underlying hu, MapKept.run_getObj_map hm, keyOkK, hj, hz, Result.andThen]
/-- A new name is put behind the others. -/
theorem updK (s : ByteArray) (D : List ByteArray) (m : Nat) (w : World) (hm : w.heap[m]? = some (mapK D)) (hn : s ∉ D) :
    (Instr.mapUpdate 131 (.map (some m)) (.string s) (.bool true)).run Tryz.prog w = .ok () { w with heap := w.heap.setIfInBounds m (mapK (D ++ [s])) } := by
  have hu : Tryz.prog.underlying 131 = some (.map 9 4) := by kernel_rfl
  unfold mapK at hm
  rcases findK s D with ⟨j, h1, _⟩ | ⟨_, hj⟩
  · exact absurd (List.mem_of_getElem? h1) hn
  · have hp : mapK (D ++ [s]) = .map ((entsK 0 D).toArray.push ⟨.string s, .bool true, D.length⟩) (D.length + 1) := by
      unfold mapK
      rw [entsK_app]
      simp
    rw [hp]
    simp [Instr.mapUpdate, run_underlying hu, MapKept.run_getObj_map hm, keyOkK, hj, MapKept.run_setObj_map _ hm, Result.andThen]
end Go.Proofs.YtgfopfomhgfcaaaGreatDoor
