/- WALKS: spans of sums and differences: the program's. -/
import Derived.Test.YtjhlpaeenjbljaaR
namespace Go.Proofs.Ytjhlpaeenjbljaa
open Go.RowKit Go.Sort

theorem plus_yes (a b c d : Int) (w : World) (h1 : okB a b = true) (h2 : okB c d = true) (hk : okB (redP (a*d+c*b) (b*d)) (redQ (a*d+c*b) (b*d)) = true) :
    Calls Try.prog 69 #[fr a b, fr c d] w fun e w' => e = .returned (fr (redP (a*d+c*b) (b*d)) (redQ (a*d+c*b) (b*d))) ∧ Gr w w' := by
  obtain ⟨b1, b2, b3, b4⟩ := okB_bd h1
  obtain ⟨d1, d2, d3, d4⟩ := okB_bd h2
  exact plus_ok a b c d w b1 b2 b3 b4 d1 d2 d3 d4 hk
theorem plus_no (a b c d : Int) (w : World) (h1 : okB a b = true) (h2 : okB c d = true) (hk : okB (redP (a*d+c*b) (b*d)) (redQ (a*d+c*b) (b*d)) = false) :
    Calls Try.prog 69 #[fr a b, fr c d] w fun e w' => (∃ x y, e = .panicked [{ v := .iface 138 (fr x y), recovered := false }]) ∧ Gr w w' := by
  obtain ⟨b1, b2, b3, b4⟩ := okB_bd h1
  obtain ⟨d1, d2, d3, d4⟩ := okB_bd h2
  exact plus_bad a b c d w b1 b2 b3 b4 d1 d2 d3 d4 hk
theorem minus_yes (a b c d : Int) (w : World) (h1 : okB a b = true) (h2 : okB c d = true) (hk : okB (redP (a*d-c*b) (b*d)) (redQ (a*d-c*b) (b*d)) = true) :
    Calls Try.prog 137 #[fr a b, fr c d] w fun e w' => e = .returned (fr (redP (a*d-c*b) (b*d)) (redQ (a*d-c*b) (b*d))) ∧ Gr w w' := by
  obtain ⟨b1, b2, b3, b4⟩ := okB_bd h1
  obtain ⟨d1, d2, d3, d4⟩ := okB_bd h2
  exact minus_ok a b c d w b1 b2 b3 b4 d1 d2 d3 d4 hk
theorem minus_no (a b c d : Int) (w : World) (h1 : okB a b = true) (h2 : okB c d = true) (hk : okB (redP (a*d-c*b) (b*d)) (redQ (a*d-c*b) (b*d)) = false) :
    Calls Try.prog 137 #[fr a b, fr c d] w fun e w' => (∃ x y, e = .panicked [{ v := .iface 138 (fr x y), recovered := false }]) ∧ Gr w w' := by
  obtain ⟨b1, b2, b3, b4⟩ := okB_bd h1
  obtain ⟨d1, d2, d3, d4⟩ := okB_bd h2
  exact minus_bad a b c d w b1 b2 b3 b4 d1 d2 d3 d4 hk
theorem times_yes (a b c d : Int) (w : World) (h1 : okB a b = true) (h2 : okB c d = true) (hk : okB (redP (a*c) (b*d)) (redQ (a*c) (b*d)) = true) :
    Calls Try.prog 71 #[fr a b, fr c d] w fun e w' => e = .returned (fr (redP (a*c) (b*d)) (redQ (a*c) (b*d))) ∧ Gr w w' := by
  obtain ⟨b1, b2, b3, b4⟩ := okB_bd h1
  obtain ⟨d1, d2, d3, d4⟩ := okB_bd h2
  exact times_ok a b c d w b1 b2 b3 b4 d1 d2 d3 d4 hk
theorem times_no (a b c d : Int) (w : World) (h1 : okB a b = true) (h2 : okB c d = true) (hk : okB (redP (a*c) (b*d)) (redQ (a*c) (b*d)) = false) :
    Calls Try.prog 71 #[fr a b, fr c d] w fun e w' => (∃ x y, e = .panicked [{ v := .iface 138 (fr x y), recovered := false }]) ∧ Gr w w' := by
  obtain ⟨b1, b2, b3, b4⟩ := okB_bd h1
  obtain ⟨d1, d2, d3, d4⟩ := okB_bd h2
  exact times_bad a b c d w b1 b2 b3 b4 d1 d2 d3 d4 hk
end Go.Proofs.Ytjhlpaeenjbljaa
namespace Go.Proofs.Ytjhlpaeenjbljaa
open Go.RowKit Go.Sort

theorem iok_t (p q : Int) (w : World) (h : okB p q = true) : Calls Try.prog 55 #[fr p q] w fun e w' => e = .returned (.bool true) ∧ Gr w w' :=
  (iok_any p q w).mono fun e w' ⟨he, hg⟩ => ⟨by rw [he, h], hg⟩
theorem iok_f (p q : Int) (w : World) (h : okB p q = false) : Calls Try.prog 55 #[fr p q] w fun e w' => e = .returned (.bool false) ∧ Gr w w' :=
  (iok_any p q w).mono fun e w' ⟨he, hg⟩ => ⟨by rw [he, h], hg⟩
theorem spB_ok {a b c d : Int} (h : spB a b c d = true) : okB a b = true ∧ okB c d = true ∧ cmpI a b c d ≤ 0 := by
  unfold spB at h; simpa [and_assoc] using h
end Go.Proofs.Ytjhlpaeenjbljaa
namespace Go.Proofs.Ytjhlpaeenjbljaa
open Go.RowKit Go.Sort

theorem okB_neg {p q : Int} (h : okB p q = true) : okB (-p) q = true := by
  rw [okB_iff] at *
  unfold Ok at *
  have e : Int.gcd (-p) q = Int.gcd p q := by simp [Int.gcd]
  omega
end Go.Proofs.Ytjhlpaeenjbljaa
namespace Go.Proofs.Ytjhlpaeenjbljaa
open Go.RowKit Go.Sort

theorem sok_t (p q : Int) (w : World) (h : okB p q = true) : Calls Try.prog 50 #[fr p q] w fun e w' => e = .returned (.bool true) ∧ Gr w w' :=
  (sok_any p q w).mono fun e w' ⟨he, hg⟩ => ⟨by rw [he, h], hg⟩
theorem sok_f (p q : Int) (w : World) (h : okB p q = false) : Calls Try.prog 50 #[fr p q] w fun e w' => e = .returned (.bool false) ∧ Gr w w' :=
  (sok_any p q w).mono fun e w' ⟨he, hg⟩ => ⟨by rw [he, h], hg⟩
/-- What is told of a fraction that is calculated. -/
theorem told_rV (f : Nat) (cap : Array Value) (n d : Int) (w : World) (hen : ∀ w, (callFunc f cap).run Try.prog w = .ok (.enter f cap) w)
    (h0 : okB (redP n d) (redQ n d) = true → ∀ w', Gr w w' → Calls Try.prog f cap w' fun e w'' => e = .returned (fr (redP n d) (redQ n d)) ∧ Gr w' w'')
    (h1 : okB (redP n d) (redQ n d) = false → ∀ w', Gr w w' → Calls Try.prog f cap w' fun e w'' => (∃ x y, e = .panicked [{ v := .iface 138 (fr x y), recovered := false }]) ∧ Gr w' w'') :
    Calls Try.prog 83 #[.func (.func f) #[] cap] w fun e w' => e = .returned (.tuple #[fr (rP n d) (rQ n d), .int .i64 (rC n d)]) ∧ Gr w w' := by
  unfold rP rQ rC
  cases k1 : okB (redP n d) (redQ n d) with
  | false => exact told_great_F f cap w hen (h1 k1)
  | true => exact told_ok_F f cap _ _ w hen (h0 k1)
/-! InSpan -/
def liesB (a b c d p q : Int) : Bool := decide (cmpI a b p q ≤ 0) && decide (cmpI p q c d ≤ 0)
end Go.Proofs.Ytjhlpaeenjbljaa
