/- WALKS: the scale that is made of its first error and of those of its intervals, of the program and of the reference. -/
import Derived.Test.YtpadjkgbeijkpaaDoorEf
import Derived.Test.YtpadjkgbeijkpaaDoorRegL
namespace Go.Proofs.YtpadjkgbeijkpaaDoor
open Go.RowKit Go.Sort

def adP (p q r s : Int) : Int := redP (p * s + r * q) (q * s)
def adQ (p q r s : Int) : Int := redQ (p * s + r * q) (q * s)
/-- The errors of the marks, one after the other. -/
def efA (p q : Int) (xs : List (Int × Int)) : Nat → Int × Int
  | 0 => (p, q)
  | k + 1 => (adP (efA p q xs k).1 (efA p q xs k).2 (xs.getD k (0, 0)).1 (xs.getD k (0, 0)).2, adQ (efA p q xs k).1 (efA p q xs k).2 (xs.getD k (0, 0)).1 (xs.getD k (0, 0)).2)
def efL (p q : Int) (xs : List (Int × Int)) (n : Nat) : List (Int × Int) := (List.range n).map (efA p q xs)
def EfOk (p q : Int) (xs : List (Int × Int)) : Prop := ∀ i, i ≤ xs.length → okB (efA p q xs i).1 (efA p q xs i).2 = true
theorem efL_len (p q : Int) (xs : List (Int × Int)) (n : Nat) : (efL p q xs n).length = n := by simp [efL]
theorem efL_get (p q : Int) (xs : List (Int × Int)) {n k : Nat} (h : k < n) : (efL p q xs n)[k]? = some ((efA p q xs k).1, (efA p q xs k).2) := by simp [efL, h]
theorem efL_succ (p q : Int) (xs : List (Int × Int)) (n : Nat) : efL p q xs (n + 1) = efL p q xs n ++ [((efA p q xs n).1, (efA p q xs n).2)] := by simp [efL, List.range_succ]
theorem efA_succ {p q : Int} {xs : List (Int × Int)} {k : Nat} {r s : Int} (h : xs[k]? = some (r, s)) : efA p q xs (k + 1) = (adP (efA p q xs k).1 (efA p q xs k).2 r s, adQ (efA p q xs k).1 (efA p q xs k).2 r s) := by
  simp [efA, List.getD_eq_getElem?_getD, h]
theorem plusa_t (p q r s : Int) (w : World) (h1 : okB p q = true) (h2 : okB r s = true) (h : okB (adP p q r s) (adQ p q r s) = true) :
    Calls Tryd.prog 162 #[fr p q, fr r s] w fun e w' => e = .returned (fr (adP p q r s) (adQ p q r s)) ∧ Gr w w' := plus_yes p q r s w h1 h2 h
theorem plusa_f (p q r s : Int) (w : World) (h1 : okB p q = true) (h2 : okB r s = true) (h : okB (adP p q r s) (adQ p q r s) = false) :
    Calls Tryd.prog 162 #[fr p q, fr r s] w fun e w' => (∃ x y, e = .panicked [{ v := .iface 147 (fr x y), recovered := false }]) ∧ Gr w w' := plus_no p q r s w h1 h2 h
theorem sadda_t (p q r s : Int) (w : World) (h1 : okB p q = true) (h2 : okB r s = true) (h : okB (adP p q r s) (adQ p q r s) = true) :
    Calls Tryd.prog 122 #[fr p q, fr r s] w fun e w' => e = .returned (.tuple #[fr (adP p q r s) (adQ p q r s), .int .i64 0]) ∧ Gr w w' := sadd_t p q r s w h1 h2 h
theorem sadda_f (p q r s : Int) (w : World) (h1 : okB p q = true) (h2 : okB r s = true) (h : okB (adP p q r s) (adQ p q r s) = false) :
    Calls Tryd.prog 122 #[fr p q, fr r s] w fun e w' => e = .returned (.tuple #[fr 0 0, .int .i64 3]) ∧ Gr w w' := sadd_f p q r s w h1 h2 h
theorem allF_get {xs : List (Int × Int)} {k : Nat} {p q : Int} (h : allF xs = true) (hk : xs[k]? = some (p, q)) : okB p q = true := by
  unfold allF at h
  exact List.all_eq_true.1 h (p, q) (List.mem_of_getElem? hk)

/-! The reference -/
theorem own_ne {W : World} {base b : Nat} {n : Nat} {v : Value} {xs : List Value} {cs : Array Value} (h : W.ownsRow base 23 2 v n xs) (hb : W.heap[b]? = some (.cells cs 41)) : v.ownBlock ≠ some b := by
  rcases h.2 with ⟨rfl, _⟩ | ⟨g, cap, cur, rfl, _, h3, _⟩
  · simp [Value.ownBlock]
  · intro he
    have : g = b := by simpa [Value.ownBlock] using he
    subst this
    rw [h3] at hb
    cases hb
theorem own_setS {W : World} {base b i : Nat} {n : Nat} {v : Value} {xs : List Value} {cs : Array Value} (h : W.ownsRow base 23 2 v n xs) (hb : W.heap[b]? = some (.cells cs 41)) (y : Value) : (W.setCell ⟨b, i, none⟩ y).ownsRow base 23 2 v n xs := by
  refine ⟨h.1, ?_⟩
  rcases h.2 with h0 | ⟨g, cap, cur, h1, h2, h3, h4⟩
  · exact .inl h0
  · refine .inr ⟨g, cap, cur, h1, h2, keepSet' h3 ?_, h4⟩
    intro he
    subst he
    rw [h3] at hb
    cases hb
def rangeB (n : Nat) : Bool := inB (n : Int) 1 59
end Go.Proofs.YtpadjkgbeijkpaaDoor
namespace Go.Proofs.YtpadjkgbeijkpaaDoor
open Go.RowKit Go.Sort

theorem gives0 {w w' : World} {e : Ending} {C : Int} (h : e = .returned (.tuple #[scl 0 0 none 0 0, .int .i64 C]) ∧ Gr w w') : GivesS w w' e 0 0 [] C := ⟨none, 0, h.1, own_nilF _ _, h.2⟩
end Go.Proofs.YtpadjkgbeijkpaaDoor
