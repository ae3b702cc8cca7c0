/- WALKS: guesses: whether they are valid, what is read by them; of the program and of the reference. -/
import Derived.Test.YtgfopfomhgfcaaaGreatDoorC0
import Derived.Test.YtgfopfomhgfcaaaGreatDoorJ
import Derived.Test.YtgfopfomhgfcaaaGreatDoorB1
import Derived.Test.YtgfopfomhgfcaaaGreatDoorE
namespace Go.Proofs.YtgfopfomhgfcaaaGreatDoor
open Go.RowKit Go.Sort

abbrev gs (b u : Int) (o : Bool) : Value := .agg #[.int .i16 b, .int .i16 u, .bool o]
def gsB (b u : Int) : Bool := inB b (-50) 50 && inB u 1 20
def W16 (b : Int) : Prop := -32768 ≤ b ∧ b ≤ 32767
theorem gsB_bd {b u : Int} (h : gsB b u = true) : -50 ≤ b ∧ b ≤ 50 ∧ 1 ≤ u ∧ u ≤ 20 := by
  unfold gsB inB at h
  simp at h
  omega
theorem gt_inQ (n m : Int) : gtB n m = !inB n (-m) m := by
  unfold gtB inB
  by_cases h1 : n < -m
  · have : ¬ -m ≤ n := by omega
    simp [h1, this]
  · have h1' : -m ≤ n := by omega
    by_cases h2 : m < n
    · have : ¬ n ≤ m := by omega
      simp [h1, h1', h2, this]
    · have : n ≤ m := by omega
      simp [h1, h1', h2, this]
/-! what is read -/
def rdP (b p q : Int) : Int := p + b * q
def rdQ (u q : Int) : Int := q * u
def rdV (b u : Int) (o : Bool) (p q : Int) : Int :=
  if o then downI (2 * rdP b p q + rdQ u q) (2 * rdQ u q) * u else -downI (2 * -rdP b p q + rdQ u q) (2 * rdQ u q) * u
structure RdBd (b u p q : Int) : Prop where
  b1 : -50 ≤ b
  b2 : b ≤ 50
  u1 : 1 ≤ u
  u2 : u ≤ 20
  q1 : 1 ≤ q
  q2 : q ≤ 1000000000
  p1 : -1000000000 ≤ p
  p2 : p ≤ 1000000000
  m1 : -50000000000 ≤ b * q
  m2 : b * q ≤ 50000000000
  n1 : 1 ≤ q * u
  n2 : q * u ≤ 20000000000
theorem rd_bd {b u p q : Int} (hg : gsB b u = true) (h : okB p q = true) : RdBd b u p q := by
  obtain ⟨b1, b2, u1, u2⟩ := gsB_bd hg
  obtain ⟨q1, q2, p1, p2⟩ := okB_bd h
  have m := mul_bound (x := b) (y := q) 50 1000000000 (by omega) (by omega) (by omega) (by omega)
  have n := mul_bound (x := q) (y := u) 1000000000 20 (by omega) (by omega) (by omega) (by omega)
  have n0 : 1 ≤ q * u := by
    have := Int.mul_le_mul q1 u1 (by omega) (by omega)
    simpa using this
  exact ⟨b1, b2, u1, u2, q1, q2, p1, p2, by omega, by omega, n0, by omega⟩
theorem down_bdQ (p q : Int) (a : Int) (h1 : -a ≤ p) (h2 : p ≤ a) : -(a + 1) ≤ downI p q ∧ downI p q ≤ a := by
  have hn : (p.tdiv q).natAbs ≤ p.natAbs := by rw [Int.natAbs_tdiv]; exact Nat.div_le_self _ _
  unfold downI
  split <;> omega

theorem down_mul_bd {x y a u : Int} (h1 : -a ≤ x) (h2 : x ≤ a) (u1 : 1 ≤ u) (u2 : u ≤ 20) (_ : 0 ≤ a) : -(20 * (a + 1)) ≤ downI x y * u ∧ downI x y * u ≤ 20 * (a + 1) := by
  obtain ⟨b1, b2⟩ := down_bdQ x y a h1 h2
  have m := mul_bound (x := downI x y) (y := u) (a + 1) 20 (by omega) (by omega) (by omega) (by omega)
  have e : (a + 1) * 20 = 20 * (a + 1) := Int.mul_comm _ _
  omega
end Go.Proofs.YtgfopfomhgfcaaaGreatDoor
