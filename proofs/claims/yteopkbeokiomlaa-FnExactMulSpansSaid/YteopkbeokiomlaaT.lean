/- WALKS: SpanAround, AddSpans, SubSpans, of the program and of the reference. -/
import Derived.Test.YteopkbeokiomlaaS
namespace Go.Proofs.Yteopkbeokiomlaa
open Go.RowKit Go.Sort

theorem iok_t (p q : Int) (w : World) (h : okB p q = true) : Calls Try.prog 103 #[fr p q] w fun e w' => e = .returned (.bool true) ∧ Gr w w' :=
  (iok_any p q w).mono fun e w' ⟨he, hg⟩ => ⟨by rw [he, h], hg⟩
theorem iok_f (p q : Int) (w : World) (h : okB p q = false) : Calls Try.prog 103 #[fr p q] w fun e w' => e = .returned (.bool false) ∧ Gr w w' :=
  (iok_any p q w).mono fun e w' ⟨he, hg⟩ => ⟨by rw [he, h], hg⟩
theorem iSpan_t (a b c d : Int) (w : World) (h : spB a b c d = true) : Calls Try.prog 66 #[sp a b c d] w fun e w' => e = .returned (.bool true) ∧ Gr w w' :=
  (iValidSpan a b c d w).mono fun e w' ⟨he, hg⟩ => ⟨by rw [he, h], hg⟩
theorem iSpan_f (a b c d : Int) (w : World) (h : spB a b c d = false) : Calls Try.prog 66 #[sp a b c d] w fun e w' => e = .returned (.bool false) ∧ Gr w w' :=
  (iValidSpan a b c d w).mono fun e w' ⟨he, hg⟩ => ⟨by rw [he, h], hg⟩
theorem sSpan_t (a b c d : Int) (w : World) (k : Nat) (x : w.heap[k]? = some (.cells #[.int .i64 a, .int .i64 b, .int .i64 c, .int .i64 d] 30)) (h : spB a b c d = true) :
    Calls Try.prog 64 #[.pointer (some ⟨k, 0, none⟩)] w fun e w' => e = .returned (.bool true) ∧ Gr w w' :=
  (sSpanAt a b c d w k x).mono fun e w' ⟨he, hg⟩ => ⟨by rw [he, h], hg⟩
theorem sSpan_f (a b c d : Int) (w : World) (k : Nat) (x : w.heap[k]? = some (.cells #[.int .i64 a, .int .i64 b, .int .i64 c, .int .i64 d] 30)) (h : spB a b c d = false) :
    Calls Try.prog 64 #[.pointer (some ⟨k, 0, none⟩)] w fun e w' => e = .returned (.bool false) ∧ Gr w w' :=
  (sSpanAt a b c d w k x).mono fun e w' ⟨he, hg⟩ => ⟨by rw [he, h], hg⟩
theorem spB_ok {a b c d : Int} (h : spB a b c d = true) : okB a b = true ∧ okB c d = true ∧ cmpI a b c d ≤ 0 := by
  unfold spB at h; simpa [and_assoc] using h
/-- What is told of a span whose ends are calculated. -/
theorem told_bV (f : Nat) (cap : Array Value) (n1 d1 n2 d2 : Int) (w : World) (hen : ∀ w, (callFunc f cap).run Try.prog w = .ok (.enter f cap) w)
    (h0 : okB (redP n1 d1) (redQ n1 d1) = true → okB (redP n2 d2) (redQ n2 d2) = true → ∀ w', Gr w w' → Calls Try.prog f cap w' fun e w'' => e = .returned (sp (redP n1 d1) (redQ n1 d1) (redP n2 d2) (redQ n2 d2)) ∧ Gr w' w'')
    (h1 : okB (redP n1 d1) (redQ n1 d1) = false → ∀ w', Gr w w' → Calls Try.prog f cap w' fun e w'' => (∃ x y, e = .panicked [{ v := .iface 194 (fr x y), recovered := false }]) ∧ Gr w' w'')
    (h2 : okB (redP n1 d1) (redQ n1 d1) = true → okB (redP n2 d2) (redQ n2 d2) = false → ∀ w', Gr w w' → Calls Try.prog f cap w' fun e w'' => (∃ x y, e = .panicked [{ v := .iface 194 (fr x y), recovered := false }]) ∧ Gr w' w'') :
    Calls Try.prog 142 #[.func (.func f) #[] cap] w fun e w' => e = .returned (bV n1 d1 n2 d2) ∧ Gr w w' := by
  unfold bV
  cases k1 : okB (redP n1 d1) (redQ n1 d1) with
  | false => exact told_great_S f cap w hen (h1 k1)
  | true =>
    cases k2 : okB (redP n2 d2) (redQ n2 d2) with
    | false => exact told_great_S f cap w hen (h2 k1 k2)
    | true => exact told_ok_S f cap _ _ _ _ w hen (h0 k1 k2)
end Go.Proofs.Yteopkbeokiomlaa
