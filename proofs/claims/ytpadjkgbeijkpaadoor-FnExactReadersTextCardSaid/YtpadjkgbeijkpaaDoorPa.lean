/- WALKS: readings: how many there may be, how great; of the program and of the reference. -/
import Derived.Test.YtpadjkgbeijkpaaDoorIc
import Derived.Test.YtpadjkgbeijkpaaDoorA
import Derived.Test.YtpadjkgbeijkpaaDoorC0
namespace Go.Proofs.YtpadjkgbeijkpaaDoor
open Go.RowKit Go.Sort

theorem gt_inM (n m : Int) : gtB n m = !inB n (-m) m := by
  unfold gtB inB
  by_cases h1 : n < -m
  · have : ¬ -m ≤ n := by omega
    simp [h1, this]
  · have h1' : -m ≤ n := by omega
    by_cases h2 : m < n
    · have : ¬ n ≤ m := by omega
      simp [h1, h1', h2, this]
    · have : n ≤ m := by omega
      simp [h1, h1', h2, this]
def okR (n : Int) : Bool := inB n (-1000000) 1000000
def rdB (xs : List Int) : Bool := inB (xs.length : Int) 1 64 && xs.all okR
theorem okR_bd {n : Int} (h : okR n = true) : -1000000 ≤ n ∧ n ≤ 1000000 := by unfold okR inB at h; simpa using h
theorem cnt_bd {n : Nat} (h : inB (n : Int) 1 64 = true) : 1 ≤ n ∧ n ≤ 64 := by unfold inB at h; simp at h; omega
theorem rd_parts {xs : List Int} (h : rdB xs = true) : 1 ≤ xs.length ∧ xs.length ≤ 64 ∧ xs.all okR = true := by
  unfold rdB at h
  simp only [Bool.and_eq_true] at h
  obtain ⟨h1, h2⟩ := cnt_bd h.1
  exact ⟨h1, h2, h.2⟩
end Go.Proofs.YtpadjkgbeijkpaaDoor
namespace Go.Proofs.YtpadjkgbeijkpaaDoor
open Go.RowKit Go.Sort

/-! UnitSeen -/
def gcdN (xs : List Int) : Nat := xs.foldl (fun g n => Nat.gcd g n.natAbs) 0
theorem gcdN_step {xs : List Int} {k : Nat} {x : Int} (h : xs[k]? = some x) : gcdN (xs.take (k + 1)) = Nat.gcd (gcdN (xs.take k)) x.natAbs := by
  unfold gcdN
  rw [List.take_add_one, h]
  simp [List.foldl_append]
theorem gcd_le' {a b m : Nat} (h1 : a ≤ m) (h2 : b ≤ m) : Nat.gcd a b ≤ m := by
  cases a with
  | zero => simpa using h2
  | succ a => exact Nat.le_trans (Nat.gcd_le_left b (by omega)) h1
theorem gcdN_le : ∀ (xs : List Int) (k : Nat), xs.all okR = true → k ≤ xs.length → gcdN (xs.take k) ≤ 1000000
  | xs, 0, _, _ => by simp [gcdN]
  | xs, k + 1, h, hk => by
    obtain ⟨x, hx⟩ : ∃ x, xs[k]? = some x := ⟨xs[k], List.getElem?_eq_getElem _⟩
    have h2 := okR_bd (allI_get hx h)
    rw [gcdN_step hx]
    exact gcd_le' (gcdN_le xs k h (by omega)) (by omega)
theorem cd_eq (p : Int) (g : Nat) : (Int.gcd p (g : Int) : Int) = ((Nat.gcd g p.natAbs : Nat) : Int) := by
  simp [Int.gcd, Nat.gcd_comm]
theorem sgcd_eq (p : Int) (g : Nat) : (Int.gcd (g : Int) (p.natAbs : Int) : Int) = ((Nat.gcd g p.natAbs : Nat) : Int) := by
  simp [Int.gcd]
end Go.Proofs.YtpadjkgbeijkpaaDoor
