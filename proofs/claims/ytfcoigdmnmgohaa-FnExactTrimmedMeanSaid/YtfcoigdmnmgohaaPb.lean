/- WALKS: what is calculated of readings that are checked; UnitSeen, of the program and of the reference. -/
import Derived.Test.YtfcoigdmnmgohaaPa
import Derived.Test.YtfcoigdmnmgohaaC1
import Derived.Test.YtfcoigdmnmgohaaA
namespace Go.Proofs.Ytfcoigdmnmgohaa
open Go.RowKit Go.Sort

theorem iRd_t (A : Option Addr) (c : Nat) (xs : List Int) (w : World) (X : Hid (RdI w A xs)) (h : rdB xs = true) :
    Calls Try.prog 120 #[.slice A xs.length c] w fun e w' => e = .returned (.bool true) ∧ Gr w w' :=
  (iReadings A c xs w X).mono fun e w' ⟨he, hw⟩ => ⟨by rw [he, h], hw ▸ Gr.refl _⟩
theorem iRd_f (A : Option Addr) (c : Nat) (xs : List Int) (w : World) (X : Hid (RdI w A xs)) (h : rdB xs = false) :
    Calls Try.prog 120 #[.slice A xs.length c] w fun e w' => e = .returned (.bool false) ∧ Gr w w' :=
  (iReadings A c xs w X).mono fun e w' ⟨he, hw⟩ => ⟨by rw [he, h], hw ▸ Gr.refl _⟩
/-! UnitSeen -/
def gcdN (xs : List Int) : Nat := xs.foldl (fun g n => Nat.gcd g n.natAbs) 0
theorem gcdN_step {xs : List Int} {k : Nat} {x : Int} (h : xs[k]? = some x) : gcdN (xs.take (k + 1)) = Nat.gcd (gcdN (xs.take k)) x.natAbs := by
  unfold gcdN
  rw [List.take_add_one, h]
  simp [List.foldl_append]
theorem gcd_le' {a b m : Nat} (h1 : a ≤ m) (h2 : b ≤ m) : Nat.gcd a b ≤ m := by
  cases a with
  | zero => simpa using h2
  | succ a => exact Nat.le_trans (Nat.gcd_le_left b (by omega)) h1
theorem gcdN_le : ∀ (xs : List Int) (k : Nat), xs.all okR = true → k ≤ xs.length → gcdN (xs.take k) ≤ 1000000
  | xs, 0, _, _ => by simp [gcdN]
  | xs, k + 1, h, hk => by
    obtain ⟨x, hx⟩ : ∃ x, xs[k]? = some x := ⟨xs[k], List.getElem?_eq_getElem _⟩
    have h2 := okR_bd (allI_get hx h)
    rw [gcdN_step hx]
    exact gcd_le' (gcdN_le xs k h (by omega)) (by omega)
theorem cd_eq (p : Int) (g : Nat) : (Int.gcd p (g : Int) : Int) = ((Nat.gcd g p.natAbs : Nat) : Int) := by
  simp [Int.gcd, Nat.gcd_comm]
theorem sgcd_eq (p : Int) (g : Nat) : (Int.gcd (g : Int) (p.natAbs : Int) : Int) = ((Nat.gcd g p.natAbs : Nat) : Int) := by
  simp [Int.gcd]
end Go.Proofs.Ytfcoigdmnmgohaa
