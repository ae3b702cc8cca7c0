/- WALKS: MarkAt and LeastCount, of the program and of the reference. -/
import Derived.Test.YtflfjedimcbfeaaSkf
import Derived.Test.YtflfjedimcbfeaaW
import Derived.Test.YtflfjedimcbfeaaH
import Derived.Test.YtflfjedimcbfeaaFu
import Derived.Test.YtflfjedimcbfeaaC1
namespace Go.Proofs.Ytflfjedimcbfeaa
open Go.RowKit Go.Sort

theorem sScT (a b : Int) (A : Option Addr) (c j : Nat) (xs : List (Int × Int)) (w : World) (X1 : Hid (w.heap[j]? = some (.cells #[.int .i64 a, .int .i64 b, .slice A xs.length c] 37))) (X : Hid (RdF w A xs)) (hn : xs.length ≤ 1048576) (h : sclB a b xs = true) :
    Calls Try.prog 67 #[.pointer (some ⟨j, 0, none⟩)] w fun e w' => e = .returned (.bool true) ∧ Gr w w' := (sScOk a b A c j xs w X1 X hn).mono fun _ _ ⟨he, hg⟩ => ⟨by rw [he, h], hg⟩
theorem sScF (a b : Int) (A : Option Addr) (c j : Nat) (xs : List (Int × Int)) (w : World) (X1 : Hid (w.heap[j]? = some (.cells #[.int .i64 a, .int .i64 b, .slice A xs.length c] 37))) (X : Hid (RdF w A xs)) (hn : xs.length ≤ 1048576) (h : sclB a b xs = false) :
    Calls Try.prog 67 #[.pointer (some ⟨j, 0, none⟩)] w fun e w' => e = .returned (.bool false) ∧ Gr w w' := (sScOk a b A c j xs w X1 X hn).mono fun _ _ ⟨he, hg⟩ => ⟨by rw [he, h], hg⟩
theorem iScT (a b : Int) (A : Option Addr) (c : Nat) (xs : List (Int × Int)) (w : World) (X : Hid (RdF w A xs)) (hn : xs.length ≤ 1048576) (h : sclB a b xs = true) :
    Calls Try.prog 39 #[scl a b A xs.length c] w fun e w' => e = .returned (.bool true) ∧ Gr w w' := (iScOk a b A c xs w X hn).mono fun _ _ ⟨he, hg⟩ => ⟨by rw [he, h], hg⟩
theorem iScF (a b : Int) (A : Option Addr) (c : Nat) (xs : List (Int × Int)) (w : World) (X : Hid (RdF w A xs)) (hn : xs.length ≤ 1048576) (h : sclB a b xs = false) :
    Calls Try.prog 39 #[scl a b A xs.length c] w fun e w' => e = .returned (.bool false) ∧ Gr w w' := (iScOk a b A c xs w X hn).mono fun _ _ ⟨he, hg⟩ => ⟨by rw [he, h], hg⟩
/-- What a valid scale is. -/
structure Scl (a b : Int) (xs : List (Int × Int)) : Prop where
  unit : okB a b = true
  pos : 0 < a
  lo : 2 ≤ xs.length
  hi : xs.length ≤ 60
  ok : ∀ (k : Nat) (p q : Int), xs[k]? = some (p, q) → okB p q = true
  mark : AllMk a b xs
  all : xs.all (fun x => okB x.1 x.2) = true
theorem scl_of {a b : Int} {xs : List (Int × Int)} (h : sclB a b xs = true) : Scl a b xs := by
  unfold sclB withinB at h
  simp only [Bool.and_eq_true, decide_eq_true_eq] at h
  obtain ⟨⟨h1, h2, _⟩, h3, h4⟩ := h
  obtain ⟨h5, h6⟩ := allE_split.1 h4
  obtain ⟨l1, l2⟩ := in_bd h3
  exact ⟨h1, h2, by omega, by omega, fun k p q hk => (h5 k p q hk).1, h6, all_of fun k p q hk => (h5 k p q hk).1⟩
end Go.Proofs.Ytflfjedimcbfeaa
namespace Go.Proofs.Ytflfjedimcbfeaa
open Go.RowKit Go.Sort

theorem absI_bd {p q : Int} (h : okB p q = true) : okB (absI p) q = true := by
  obtain ⟨b1, b2, b3, b4⟩ := okB_bd h
  rw [okB_iff] at h ⊢
  unfold Ok at h ⊢
  unfold absI
  obtain ⟨h1, h2, h3, h4, h5⟩ := h
  refine ⟨h1, h2, by omega, by omega, ?_⟩
  simpa [Int.gcd] using h5
theorem isize_gr (p q : Int) (w : World) (h : okB p q = true) :
    Calls Try.prog 108 #[fr p q] w fun e w' => e = .returned (fr (absI p) q) ∧ Gr w w' := by
  obtain ⟨b1, b2, b3, b4⟩ := okB_bd h
  exact isize p q w (by omega) (by omega)
/-- The greatest size from P / Q on. -/
def wst : List (Int × Int) → Int → Int → Int × Int
  | [], P, Q => (P, Q)
  | x :: r, P, Q => wst r (mxP P Q (absI x.1) x.2) (mxQ P Q (absI x.1) x.2)
theorem wst_step {xs : List (Int × Int)} {k : Nat} {p q P Q : Int} (h : xs[k]? = some (p, q)) :
    wst (xs.drop k) P Q = wst (xs.drop (k + 1)) (mxP P Q (absI p) q) (mxQ P Q (absI p) q) := by
  have hk : k < xs.length := (List.getElem?_eq_some_iff.1 h).1
  have e : xs[k] = (p, q) := (List.getElem?_eq_some_iff.1 h).2
  rw [List.drop_eq_getElem_cons hk, e]
  rfl
theorem wst_ok : ∀ (xs : List (Int × Int)) (P Q : Int), okB P Q = true → xs.all (fun x => okB x.1 x.2) = true → okB (wst xs P Q).1 (wst xs P Q).2 = true
  | [], P, Q, h, _ => h
  | x :: r, P, Q, h, hx => by
    simp only [List.all_cons, Bool.and_eq_true] at hx
    exact wst_ok r _ _ (ok_mx h (absI_bd hx.1)) hx.2
end Go.Proofs.Ytflfjedimcbfeaa
namespace Go.Proofs.Ytflfjedimcbfeaa
open Go.RowKit Go.Sort

def lcB (a b n : Int) : Bool := okB (redP (a * 1) (b * n)) (redQ (a * 1) (b * n))
theorem vern_bd {n : Int} (h : inB n 2 40 = true) : okB n 1 = true ∧ n ≠ 0 := by
  obtain ⟨h1, h2⟩ := in_bd h
  exact ⟨ok_whole (by omega) (by omega), by omega⟩
theorem iVernGr (n : Int) (r : Bool) (w : World) : Calls Try.prog 40 #[vn n r] w fun e w' => e = .returned (.bool (inB n 2 40)) ∧ Gr w w' := iValidVernier n r w
end Go.Proofs.Ytflfjedimcbfeaa
