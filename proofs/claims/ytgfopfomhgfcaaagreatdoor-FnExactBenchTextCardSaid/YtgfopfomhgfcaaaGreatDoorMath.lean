/- Plain mathematics of fractions in lowest terms: no program in sight. -/
namespace Go.Proofs.YtgfopfomhgfcaaaGreatDoor

/-- A valid fraction. -/
def Ok (p q : Int) : Prop := 1 ≤ q ∧ q ≤ 1000000000 ∧ -1000000000 ≤ p ∧ p ≤ 1000000000 ∧ Int.gcd p q = 1
instance (p q : Int) : Decidable (Ok p q) := by unfold Ok; infer_instance
/-- .. as a Bool, closed to the walk. -/
def okB (p q : Int) : Bool := decide (Ok p q)
theorem okB_iff {p q : Int} : okB p q = true ↔ Ok p q := by unfold okB; simp
theorem okB_false {p q : Int} : okB p q = false ↔ ¬ Ok p q := by unfold okB; simp

/-- The parts of p / q in lowest terms. -/
def redP (p q : Int) : Int := if q < 0 then -(p.tdiv (Int.gcd p q)) else p.tdiv (Int.gcd p q)
def redQ (p q : Int) : Int := if q < 0 then -(q.tdiv (Int.gcd p q)) else q.tdiv (Int.gcd p q)

theorem gcd_pos {p q : Int} (h : q ≠ 0) : 0 < Int.gcd p q := by
  have := Int.gcd_pos_of_ne_zero_right p h
  omega

theorem redQ_pos {p q : Int} (h : q ≠ 0) : 1 ≤ redQ p q := by
  unfold redQ
  have hg := gcd_pos (p := p) h
  obtain ⟨k, hk⟩ : ((Int.gcd p q : Nat) : Int) ∣ q := Int.gcd_dvd_right p q
  generalize Int.gcd p q = g at *
  subst hk
  rw [Int.mul_tdiv_cancel_left _ (by omega)]
  have hk0 : k ≠ 0 := by rintro rfl; simp at h
  by_cases hk : k < 0
  · have : (g:Int) * k < 0 := Int.mul_neg_of_pos_of_neg (by omega) hk
    rw [if_pos this]; omega
  · have : 0 < (g:Int) * k := Int.mul_pos (by omega) (by omega)
    rw [if_neg (by omega)]; omega

theorem nat_tdiv (x : Int) (g : Nat) : (x.tdiv g).natAbs = x.natAbs / g := by
  rw [Int.natAbs_tdiv]; rfl
theorem red_gcd {p q : Int} (h : q ≠ 0) : Int.gcd (redP p q) (redQ p q) = 1 := by
  have hg := gcd_pos (p := p) h
  have e1 : (redP p q).natAbs = p.natAbs / Int.gcd p q := by
    unfold redP; split <;> (try rw [Int.natAbs_neg]) <;> exact nat_tdiv _ _
  have e2 : (redQ p q).natAbs = q.natAbs / Int.gcd p q := by
    unfold redQ; split <;> (try rw [Int.natAbs_neg]) <;> exact nat_tdiv _ _
  show Nat.gcd _ _ = 1
  rw [e1, e2]
  show Nat.gcd (p.natAbs / Nat.gcd p.natAbs q.natAbs) (q.natAbs / Nat.gcd p.natAbs q.natAbs) = 1
  rw [Nat.gcd_div (Nat.gcd_dvd_left _ _) (Nat.gcd_dvd_right _ _)]
  exact Nat.div_self hg

theorem gcd_abs1 (p q : Int) : Int.gcd (p.natAbs : Int) q = Int.gcd p q := by simp [Int.gcd]
theorem gcd_abs2 (p q : Int) : Int.gcd (p.natAbs : Int) (q.natAbs : Int) = Int.gcd p q := by simp [Int.gcd]
theorem gcd_tmod (p q : Int) : Int.gcd (q.tmod p) p = Int.gcd p q := by
  show Nat.gcd _ _ = Nat.gcd _ _
  rw [Int.natAbs_tmod]
  exact (Nat.gcd_rec _ _).symm
theorem gcd_emod (a b : Int) (h : 0 ≤ a) : Int.gcd b (a % b) = Int.gcd a b := by
  rw [← Int.tmod_eq_emod_of_nonneg h, Int.gcd_comm, gcd_tmod, Int.gcd_comm]
theorem tmod_lt (p q : Int) (h : p ≠ 0) : (q.tmod p).natAbs < p.natAbs := by
  rw [Int.natAbs_tmod]; exact Nat.mod_lt _ (by omega)

theorem tdiv_bd (x : Int) (g : Nat) (b : Int) (h1 : -b ≤ x) (h2 : x ≤ b) : -b ≤ x.tdiv g ∧ x.tdiv g ≤ b := by
  have e := nat_tdiv x g
  have : x.natAbs / g ≤ x.natAbs := Nat.div_le_self _ _
  omega
theorem tdiv_sign {p q : Int} (h : q ≠ 0) : q.tdiv (Int.gcd p q) < 0 ↔ q < 0 := by
  have hg := gcd_pos (p := p) h
  obtain ⟨k, hk⟩ : ((Int.gcd p q : Nat) : Int) ∣ q := Int.gcd_dvd_right p q
  generalize Int.gcd p q = g at *
  subst hk
  rw [Int.mul_tdiv_cancel_left _ (by omega)]
  constructor
  · intro hk
    exact Int.mul_neg_of_pos_of_neg (by omega) hk
  · intro hk
    have : ¬ 0 ≤ k := fun h0 => by have := Int.mul_nonneg (show (0:Int) ≤ g by omega) h0; omega
    omega
/-- p / q in lowest terms, with its code. -/
def rP (p q : Int) : Int := if okB (redP p q) (redQ p q) then redP p q else 0
def rQ (p q : Int) : Int := if okB (redP p q) (redQ p q) then redQ p q else 0
def rC (p q : Int) : Int := if okB (redP p q) (redQ p q) then 0 else 3
/-- .. if both fractions are valid. -/
def oP (u v : Bool) (p q : Int) : Int := if u && v then rP p q else 0
def oQ (u v : Bool) (p q : Int) : Int := if u && v then rQ p q else 0
def oC (u v : Bool) (p q : Int) : Int := if u && v then rC p q else 1
/-- .. of a quotient. -/
def zP (u v : Bool) (z : Int) (p q : Int) : Int := if z = 0 then 0 else oP u v p q
def zQ (u v : Bool) (z : Int) (p q : Int) : Int := if z = 0 then 0 else oQ u v p q
def zC (u v : Bool) (z : Int) (p q : Int) : Int := if u && v then (if z = 0 then 4 else rC p q) else 1
theorem mul_bound {x y : Int} (a b : Int) (h1 : -a ≤ x) (h2 : x ≤ a) (h3 : -b ≤ y) (h4 : y ≤ b) : -(a * b) ≤ x * y ∧ x * y ≤ a * b := by
  have ha : 0 ≤ a := by omega
  have hb : 0 ≤ b := by omega
  have h : (x * y).natAbs ≤ (a * b).natAbs := by
    rw [Int.natAbs_mul, Int.natAbs_mul]; exact Nat.mul_le_mul (by omega) (by omega)
  have : 0 ≤ a * b := Int.mul_nonneg ha hb
  omega
theorem mul_bd {x y : Int} (h1 : -1000000000 ≤ x) (h2 : x ≤ 1000000000) (h3 : -1000000000 ≤ y) (h4 : y ≤ 1000000000) : -1000000000000000000 ≤ x * y ∧ x * y ≤ 1000000000000000000 := by
  have := mul_bound 1000000000 1000000000 h1 h2 h3 h4
  omega

end Go.Proofs.YtgfopfomhgfcaaaGreatDoor
