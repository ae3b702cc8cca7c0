/- PLACES BY NAMES: a map from names to places, of the call's own. -/
import Derived.Test.YtadpoocafhddeaaDoorIs
import Derived.Test.YtadpoocafhddeaaDoorB0
import Derived.WideKeyEntry
namespace Go.Proofs.YtadpoocafhddeaaDoor
open Go.RowKit Go.Sort

/-- The entries of a map with the names D, in the order in which they came: each has its place. -/
def entsN : Nat → List ByteArray → List MapEntry
  | _, [] => []
  | b, s :: r => ⟨.string s, .int .i64 (b : Int), b⟩ :: entsN (b + 1) r
theorem entsN_len : ∀ (b : Nat) (D : List ByteArray), (entsN b D).length = D.length
  | _, [] => rfl
  | b, s :: r => by simp [entsN, entsN_len (b + 1) r]
theorem entsN_app (s : ByteArray) : ∀ (D : List ByteArray) (b : Nat), entsN b (D ++ [s]) = entsN b D ++ [⟨.string s, .int .i64 ((b + D.length : Nat) : Int), b + D.length⟩]
  | [], b => by simp [entsN]
  | y :: r, b => by
    have := entsN_app s r (b + 1)
    simp only [List.cons_append, entsN, this, List.length_cons]
    rw [show b + (r.length + 1) = b + 1 + r.length by omega]
def mapN (D : List ByteArray) : Obj := .map (entsN 0 D).toArray D.length
theorem strEqN (a b : ByteArray) : (a == b) = true ↔ a = b := by
  obtain ⟨x⟩ := a; obtain ⟨y⟩ := b
  constructor
  · intro h
    have : (x == y) = true := h
    exact congrArg _ (by simpa using this)
  · intro h
    cases h
    show (x == x) = true
    simp
theorem findNowN (s : ByteArray) : ∀ (D : List ByteArray) (b i : Nat),
    (∃ j : Nat, D[j]? = some s ∧ (∀ k, k < j → D[k]? ≠ some s) ∧ Instr.findNow .string (.string s) (entsN b D) i = some (some (i + j, .int .i64 ((b + j : Nat) : Int)))) ∨ (s ∉ D ∧ Instr.findNow .string (.string s) (entsN b D) i = some none)
  | [], b, i => .inr ⟨by simp, rfl⟩
  | y :: r, b, i => by
    by_cases h : s = y
    · subst h
      have e : (s == s) = true := (strEqN s s).2 rfl
      exact .inl ⟨0, rfl, fun k hk => by omega, by simp [entsN, Instr.findNow, Instr.sameNow, e]⟩
    · have e : (s == y) = false := by
        cases he : (s == y) with
        | false => rfl
        | true => exact absurd ((strEqN s y).1 he) h
      rcases findNowN s r (b + 1) (i + 1) with ⟨j, h1, h2, h3⟩ | ⟨h1, h2⟩
      · refine .inl ⟨j + 1, by simpa using h1, fun k hk => ?_, ?_⟩
        · cases k with
          | zero => simpa using fun h' => h h'.symm
          | succ k => simpa using h2 k (by omega)
        · simp only [entsN, Instr.findNow, Instr.sameNow, e]
          rw [show i + (j + 1) = i + 1 + j by omega, show b + (j + 1) = b + 1 + j by omega]
          exact h3
      · refine .inr ⟨by simp [h, h1], ?_⟩
        simp only [entsN, Instr.findNow, Instr.sameNow, e]
        exact h2
theorem keyOkN (b : Bool) (s : ByteArray) (w : World) : (Instr.checkKey b 10000 9 (.string s)).run Tryd.prog w = .ok () w := by kernel_rfl
theorem findN (s : ByteArray) (D : List ByteArray) :
    (∃ j : Nat, D[j]? = some s ∧ (∀ k, k < j → D[k]? ≠ some s) ∧ ∀ w, (Instr.findKey 9 (.string s) (entsN 0 D)).run Tryd.prog w = .ok (some (j, .int .i64 (j : Int))) w) ∨ (s ∉ D ∧ ∀ w, (Instr.findKey 9 (.string s) (entsN 0 D)).run Tryd.prog w = .ok none w) := by
  have hu : Tryd.prog.underlying 9 = some .string := by kernel_rfl
  rcases findNowN s D 0 0 with ⟨j, h1, h2, h3⟩ | ⟨h1, h2⟩
  · rw [Nat.zero_add] at h3
    exact .inl ⟨j, h1, h2, fun w => by simp [Instr.findKey, run_underlying hu, h3, Result.andThen]⟩
  · exact .inr ⟨h1, fun w => by simp [Instr.findKey, run_underlying hu, h2, Result.andThen]⟩
/-- A look-up that tells whether there is one. -/
theorem lookN (s : ByteArray) (D : List ByteArray) (m : Nat) :
    (∃ j : Nat, D[j]? = some s ∧ (∀ k, k < j → D[k]? ≠ some s) ∧ ∀ w : World, w.heap[m]? = some (mapN D) → (Instr.lookup 57 (.map (some m)) (.string s) true).run Tryd.prog w = .ok (.tuple #[.int .i64 (j : Int), .bool true]) w) ∨
    (s ∉ D ∧ ∀ w : World, w.heap[m]? = some (mapN D) → (Instr.lookup 57 (.map (some m)) (.string s) true).run Tryd.prog w = .ok (.tuple #[.int .i64 0, .bool false]) w) := by
  have hu : Tryd.prog.underlying 57 = some (.map 9 2) := by kernel_rfl
  have hz : ∀ w, (zeroValue 2).run Tryd.prog w = .ok (.int .i64 0) w := fun w => by kernel_rfl
  rcases findN s D with ⟨j, h1, h2, hj⟩ | ⟨hn, hj⟩
  · refine .inl ⟨j, h1, h2, fun w hm => ?_⟩
    unfold mapN at hm
    simp [Instr.lookup, run_underlying hu, MapKept.run_getObj_map hm, keyOkN, hj, Result.andThen]
  · refine .inr ⟨hn, fun w hm => ?_⟩
    unfold mapN at hm
    simp [Instr.lookup, run_underlying hu, MapKept.run_getObj_map hm, keyOkN, hj, hz, Result.andThen]
/-- A new name is put behind the others. -/
theorem updN (s : ByteArray) (D : List ByteArray) (m : Nat) (w : World) (hm : w.heap[m]? = some (mapN D)) (hn : s ∉ D) :
    (Instr.mapUpdate 57 (.map (some m)) (.string s) (.int .i64 (D.length : Int))).run Tryd.prog w = .ok () { w with heap := w.heap.setIfInBounds m (mapN (D ++ [s])) } := by
  have hu : Tryd.prog.underlying 57 = some (.map 9 2) := by kernel_rfl
  unfold mapN at hm
  rcases findN s D with ⟨j, h1, _⟩ | ⟨_, hj⟩
  · exact absurd (List.mem_of_getElem? h1) hn
  · have hp : mapN (D ++ [s]) = .map ((entsN 0 D).toArray.push ⟨.string s, .int .i64 (D.length : Int), D.length⟩) (D.length + 1) := by
      unfold mapN
      rw [entsN_app]
      simp
    rw [hp]
    simp [Instr.mapUpdate, run_underlying hu, MapKept.run_getObj_map hm, keyOkN, hj, MapKept.run_setObj_map _ hm, Result.andThen]
end Go.Proofs.YtadpoocafhddeaaDoor
