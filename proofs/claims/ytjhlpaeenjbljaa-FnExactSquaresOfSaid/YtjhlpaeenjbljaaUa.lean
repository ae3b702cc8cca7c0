/- RESIDUALS: what is left of an observation when numbers are taken away, in numbers; l04Less of the reference. -/
import Derived.Test.YtjhlpaeenjbljaaOi
import Derived.Test.YtjhlpaeenjbljaaIe
namespace Go.Proofs.Ytjhlpaeenjbljaa
open Go.RowKit Go.Sort

/-- a product -/
def mlP (s t a b : Int) : Int := redP (s * a) (t * b)
def mlQ (s t a b : Int) : Int := redQ (s * a) (t * b)
def mlB (s t a b : Int) : Bool := okB (mlP s t a b) (mlQ s t a b)
/-- u / v less s / t times a / b -/
def lsP (u v s t a b : Int) : Int := sbP u v (mlP s t a b) (mlQ s t a b)
def lsQ (u v s t a b : Int) : Int := sbQ u v (mlP s t a b) (mlQ s t a b)
def lsB (u v s t a b : Int) : Bool := mlB s t a b && sbB u v (mlP s t a b) (mlQ s t a b)
theorem lsB_all {u v s t a b : Int} (h : lsB u v s t a b = true) : mlB s t a b = true ∧ sbB u v (mlP s t a b) (mlQ s t a b) = true := by
  unfold lsB at h; simpa using h
theorem lsB_ok {u v s t a b : Int} (h : lsB u v s t a b = true) : okB (lsP u v s t a b) (lsQ u v s t a b) = true := (lsB_all h).2
theorem ml_n1 (a b c : Int) : n1P a b c = mlP c 1 a b ∧ n1Q a b c = mlQ c 1 a b ∧ n1B a b c = mlB c 1 a b := ⟨rfl, rfl, rfl⟩
/-- what is left of an observation behind k numbers -/
def rsd (x : Obv) (ys : List (Int × Int)) : Nat → Option (Int × Int)
  | 0 => some (x.p, x.q)
  | k + 1 => match rsd x ys k with
    | none => none
    | some (u, v) => if coAt x k = 0 then some (u, v) else
        if lsB u v (coAt x k) 1 (ys.getD k (0, 0)).1 (ys.getD k (0, 0)).2 = true then some (lsP u v (coAt x k) 1 (ys.getD k (0, 0)).1 (ys.getD k (0, 0)).2, lsQ u v (coAt x k) 1 (ys.getD k (0, 0)).1 (ys.getD k (0, 0)).2) else none
theorem rsd_zero {x : Obv} {ys : List (Int × Int)} {k : Nat} {u v : Int} (h : rsd x ys k = some (u, v)) (hc : coAt x k = 0) : rsd x ys (k + 1) = some (u, v) := by
  simp [rsd, h, hc]
theorem rsd_t {x : Obv} {ys : List (Int × Int)} {k : Nat} {u v a b : Int} (h : rsd x ys k = some (u, v)) (hy : ys[k]? = some (a, b)) (hc : ¬ coAt x k = 0) (hl : lsB u v (coAt x k) 1 a b = true) : rsd x ys (k + 1) = some (lsP u v (coAt x k) 1 a b, lsQ u v (coAt x k) 1 a b) := by
  simp [rsd, h, hc, List.getD_eq_getElem?_getD, hy, hl]
theorem rsd_f {x : Obv} {ys : List (Int × Int)} {k : Nat} {u v a b : Int} (h : rsd x ys k = some (u, v)) (hy : ys[k]? = some (a, b)) (hc : ¬ coAt x k = 0) (hl : lsB u v (coAt x k) 1 a b = false) : rsd x ys (k + 1) = none := by
  simp [rsd, h, hc, List.getD_eq_getElem?_getD, hy, hl]
theorem rsd_none {x : Obv} {ys : List (Int × Int)} {k : Nat} (h : rsd x ys k = none) : ∀ m, k ≤ m → rsd x ys m = none
  | 0, hm => by obtain rfl : k = 0 := by omega
                exact h
  | m + 1, hm => by
    by_cases hk : k = m + 1
    · subst hk; exact h
    · have := rsd_none h m (by omega)
      simp [rsd, this]
theorem rsd_ok {x : Obv} {ys : List (Int × Int)} (hx : okB x.p x.q = true) : ∀ (k : Nat) (u v : Int), rsd x ys k = some (u, v) → okB u v = true
  | 0, u, v, h => by
    simp only [rsd, Option.some.injEq, Prod.mk.injEq] at h
    obtain ⟨rfl, rfl⟩ := h
    exact hx
  | k + 1, u, v, h => by
    cases hr : rsd x ys k with
    | none => simp [rsd, hr] at h
    | some p =>
      obtain ⟨u', v'⟩ := p
      simp only [rsd, hr] at h
      by_cases hc : coAt x k = 0
      · rw [if_pos hc] at h
        simp only [Option.some.injEq, Prod.mk.injEq] at h
        obtain ⟨rfl, rfl⟩ := h
        exact rsd_ok hx k _ _ hr
      · rw [if_neg hc] at h
        by_cases hl : lsB u' v' (coAt x k) 1 (ys.getD k (0, 0)).1 (ys.getD k (0, 0)).2 = true
        · rw [if_pos hl] at h
          simp only [Option.some.injEq, Prod.mk.injEq] at h
          obtain ⟨rfl, rfl⟩ := h
          exact lsB_ok hl
        · rw [if_neg hl] at h; cases h
/-- all residuals, and whether there are all of them -/
def rsdA (ys : List (Int × Int)) (x : Obv) : Int × Int := (rsd x ys ys.length).getD (0, 0)
def rsdL (xs : List Obv) (ys : List (Int × Int)) : List (Int × Int) := xs.map (rsdA ys)
def RsdAll (xs : List Obv) (ys : List (Int × Int)) : Prop := ∀ (k : Nat) (x : Obv), xs[k]? = some x → ∃ u v, rsd x ys ys.length = some (u, v)
theorem rsdL_len (xs : List Obv) (ys : List (Int × Int)) : (rsdL xs ys).length = xs.length := by simp [rsdL]
theorem rsdL_take {xs : List Obv} {ys : List (Int × Int)} {k : Nat} {x : Obv} {u v : Int} (h : xs[k]? = some x) (hr : rsd x ys ys.length = some (u, v)) : (rsdL xs ys).take (k + 1) = (rsdL xs ys).take k ++ [(u, v)] := by
  rw [List.take_add_one]
  simp [rsdL, h, rsdA, hr]
theorem ob_ok {x : Obv} {n : Nat} (h : obB x n = true) : okB x.p x.q = true ∧ inB x.t 1 100 = true ∧ (coL x).all rgB = true := by
  unfold obB at h; simp only [Bool.and_eq_true] at h; exact ⟨h.2.1, h.2.2, h.1.2.1⟩
theorem co_rg {x : Obv} {n k : Nat} (h : obB x n = true) (hk : k < 6) : -3 ≤ coAt x k ∧ coAt x k ≤ 3 := by
  have h3 := (ob_ok h).2.2
  have : coAt x k ∈ coL x := by
    unfold coAt
    rw [List.getD_eq_getElem?_getD, List.getElem?_eq_getElem (show k < (coL x).length from hk)]
    exact List.getElem_mem _
  have := List.all_eq_true.1 h3 _ this
  unfold rgB inB at this
  simpa using this
end Go.Proofs.Ytjhlpaeenjbljaa
