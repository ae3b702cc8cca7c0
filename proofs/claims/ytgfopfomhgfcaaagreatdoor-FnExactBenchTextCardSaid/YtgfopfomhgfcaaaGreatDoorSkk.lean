/- WALKS: where a line of a vernier is, of the program and of the reference. -/
import Derived.Test.YtgfopfomhgfcaaaGreatDoorSkf
namespace Go.Proofs.YtgfopfomhgfcaaaGreatDoor
open Go.RowKit Go.Sort

def lnP (a b n t x y : Int) : Int := redP (x * nQ a b n t + nP a b n t * y) (y * nQ a b n t)
def lnQ (a b n t x y : Int) : Int := redQ (x * nQ a b n t + nP a b n t * y) (y * nQ a b n t)
/-- Can the place of a line be told, its step being told? -/
def ln3 (a b n t x y : Int) : Bool := okB (lnP a b n t x y) (lnQ a b n t x y)
def lnB (a b n t x y : Int) : Bool := n1B a b t && (nB a b n t && ln3 a b n t x y)
/-- The steps of the line i. -/
def stp (n : Int) (r : Bool) (i : Int) : Int := if r then i * (n + 1) else i * (n - 1)
theorem plusl_t (a b n t x y : Int) (w : World) (h2 : okB x y = true) (g2 : nB a b n t = true) (g3 : ln3 a b n t x y = true) :
    Calls Tryz.prog 173 #[fr x y, fr (nP a b n t) (nQ a b n t)] w fun e w' => e = .returned (fr (lnP a b n t x y) (lnQ a b n t x y)) ∧ Gr w w' := plus_yes x y _ _ w h2 g2 g3
theorem saddl_t (a b n t x y : Int) (w : World) (h2 : okB x y = true) (g2 : nB a b n t = true) (g3 : ln3 a b n t x y = true) :
    Calls Tryz.prog 127 #[fr x y, fr (nP a b n t) (nQ a b n t)] w fun e w' => e = .returned (.tuple #[fr (lnP a b n t x y) (lnQ a b n t x y), .int .i64 0]) ∧ Gr w w' := sadd_t x y _ _ w h2 g2 g3
theorem saddl_f (a b n t x y : Int) (w : World) (h2 : okB x y = true) (g2 : nB a b n t = true) (g3 : ln3 a b n t x y = false) :
    Calls Tryz.prog 127 #[fr x y, fr (nP a b n t) (nQ a b n t)] w fun e w' => e = .returned (.tuple #[fr 0 0, .int .i64 3]) ∧ Gr w w' := sadd_f x y _ _ w h2 g2 g3

/-- What is told of a fraction that is calculated: by the program .. -/
def ResI (B : Bool) (P Q : Int) (w : World) (e : Ending) (w' : World) : Prop := (B = true → e = .returned (fr P Q)) ∧ (B = false → ∃ x y, e = .panicked [{ v := .iface 227 (fr x y), recovered := false }]) ∧ Gr w w'
/-- .. and by the reference. -/
def ResS (B : Bool) (P Q : Int) (w : World) (e : Ending) (w' : World) : Prop := e = .returned (.tuple #[fr (if B then P else 0) (if B then Q else 0), .int .i64 (if B then 0 else 3)]) ∧ Gr w w'
theorem stp_bd {n i : Int} {r : Bool} (n1 : 2 ≤ n) (n2 : n ≤ 40) (i1 : 0 ≤ i) (i2 : i ≤ n) : -2000 ≤ stp n r i ∧ stp n r i ≤ 2000 := by
  unfold stp
  have h0 : 0 ≤ i * (n - 1) := Int.mul_nonneg i1 (by omega)
  have h1 : 0 ≤ i * (n + 1) := Int.mul_nonneg i1 (by omega)
  have h2 : i * (n - 1) ≤ 40 * (n - 1) := Int.mul_le_mul_of_nonneg_right (by omega) (by omega)
  have h3 : i * (n + 1) ≤ 40 * (n + 1) := Int.mul_le_mul_of_nonneg_right (by omega) (by omega)
  split <;> omega
end Go.Proofs.YtgfopfomhgfcaaaGreatDoor
namespace Go.Proofs.YtgfopfomhgfcaaaGreatDoor
open Go.RowKit Go.Sort

/-- Are a scale, a vernier and a place valid? -/
def askB (a b : Int) (xs : List (Int × Int)) (n x y : Int) : Bool := sclB a b xs && (inB n 2 40 && okB x y)
theorem vernT (n : Int) (r : Bool) (w : World) (k : Nat) (X1 : Hid (w.heap[k]? = some (.cells #[.int .i64 n, .bool r] 38))) (h : inB n 2 40 = true) : Calls Tryz.prog 68 #[.pointer (some ⟨k, 0, none⟩)] w fun e w' => e = .returned (.bool true) ∧ Gr w w' :=
  (sVernAt n r w k X1).mono fun _ _ ⟨he, hg⟩ => ⟨by rw [he, h], hg⟩
theorem vernF (n : Int) (r : Bool) (w : World) (k : Nat) (X1 : Hid (w.heap[k]? = some (.cells #[.int .i64 n, .bool r] 38))) (h : inB n 2 40 = false) : Calls Tryz.prog 68 #[.pointer (some ⟨k, 0, none⟩)] w fun e w' => e = .returned (.bool false) ∧ Gr w w' :=
  (sVernAt n r w k X1).mono fun _ _ ⟨he, hg⟩ => ⟨by rw [he, h], hg⟩
theorem iVernT (n : Int) (r : Bool) (w : World) (h : inB n 2 40 = true) : Calls Tryz.prog 78 #[vn n r] w fun e w' => e = .returned (.bool true) ∧ Gr w w' :=
  (iValidVernier n r w).mono fun _ _ ⟨he, hg⟩ => ⟨by rw [he, h], hg⟩
theorem iVernF (n : Int) (r : Bool) (w : World) (h : inB n 2 40 = false) : Calls Tryz.prog 78 #[vn n r] w fun e w' => e = .returned (.bool false) ∧ Gr w w' :=
  (iValidVernier n r w).mono fun _ _ ⟨he, hg⟩ => ⟨by rw [he, h], hg⟩

theorem ask_of {a b : Int} {xs : List (Int × Int)} {n x y : Int} (h : askB a b xs n x y = true) : sclB a b xs = true ∧ inB n 2 40 = true ∧ okB x y = true := by
  unfold askB at h
  simpa using h
end Go.Proofs.YtgfopfomhgfcaaaGreatDoor
