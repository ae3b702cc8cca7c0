/- WALKS: the greater and the lesser one of two fractions; MeetSpans, of the program and of the reference. -/
import Derived.Test.YtgfopfomhgfcaaaGreatDoorN
import Derived.Test.YtgfopfomhgfcaaaGreatDoorB0
namespace Go.Proofs.YtgfopfomhgfcaaaGreatDoor
open Go.RowKit Go.Sort

/-- The greater, the lesser one of a / b and c / d. -/
def mxP (a b c d : Int) : Int := if 0 < cmpI c d a b then c else a
def mxQ (a b c d : Int) : Int := if 0 < cmpI c d a b then d else b
def mnP (a b c d : Int) : Int := if cmpI c d a b < 0 then c else a
def mnQ (a b c d : Int) : Int := if cmpI c d a b < 0 then d else b
theorem ok_mx {a b c d : Int} (h1 : okB a b = true) (h2 : okB c d = true) : okB (mxP a b c d) (mxQ a b c d) = true := by
  unfold mxP mxQ; split <;> assumption
theorem ok_mn {a b c d : Int} (h1 : okB a b = true) (h2 : okB c d = true) : okB (mnP a b c d) (mnQ a b c d) = true := by
  unfold mnP mnQ; split <;> assumption
theorem cmp_bd {a b c d : Int} (h1 : okB a b = true) (h2 : okB c d = true) : (-1000000000000000000 ≤ a * d ∧ a * d ≤ 1000000000000000000) ∧ (-1000000000000000000 ≤ c * b ∧ c * b ≤ 1000000000000000000) := by
  obtain ⟨b1, b2, b3, b4⟩ := okB_bd h1
  obtain ⟨d1, d2, d3, d4⟩ := okB_bd h2
  exact ⟨mul_bd b3 b4 (by omega) d2, mul_bd d3 d4 (by omega) b2⟩
theorem scmp_ok (a b c d : Int) (w : World) (h1 : okB a b = true) (h2 : okB c d = true) :
    Calls Tryz.prog 107 #[fr a b, fr c d] w fun e w' => e = .returned (.int .i64 (cmpI a b c d)) ∧ Gr w w' :=
  scmp a b c d w (cmp_bd h1 h2).1.1 (cmp_bd h1 h2).1.2 (cmp_bd h1 h2).2.1 (cmp_bd h1 h2).2.2
end Go.Proofs.YtgfopfomhgfcaaaGreatDoor
