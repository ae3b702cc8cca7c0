/- Slices of fractions wherever they lie: how they read; scales: how they come from the laws' values; compared. -/
import Derived.Test.YtkeflpcokcfcjaaDoorFs
import Derived.Test.YtkeflpcokcfcjaaDoorB1
import Derived.Test.YtkeflpcokcfcjaaDoorB0
import Derived.Test.YtkeflpcokcfcjaaDoorX1
import Derived.Test.YtkeflpcokcfcjaaDoorFu
import Derived.Test.YtkeflpcokcfcjaaDoorRgf
import Derived.Test.YtkeflpcokcfcjaaDoorC0
namespace Go.Proofs.YtkeflpcokcfcjaaDoor
open Go.RowKit Go.Sort

/-- A slice of fractions at an address, whoever made it: its elements. -/
def RdF (w : World) (A : Option Addr) (xs : List (Int × Int)) : Prop := ∀ (k : Nat) (p q : Int), xs[k]? = some (p, q) → ∃ ad, A = some ad ∧ w.cell? (ad.add (k * 2)) = some (.int .i64 p) ∧ w.cell? ⟨(ad.add (k * 2)).block, (ad.add (k * 2)).off + 1, none⟩ = some (.int .i64 q)
theorem RdF.keep {w w' : World} {A : Option Addr} {xs : List (Int × Int)} (h : RdF w A xs) (hg : Gr w w') : RdF w' A xs := fun k p q hk => by
  obtain ⟨ad, e, c1, c2⟩ := h k p q hk
  have h2 := raw_lt c1
  exact ⟨ad, e, (hg.cell' (by rw [add_block]; exact h2)).trans c1, (hg.cell' (by show (ad.add (k * 2)).block < _; rw [add_block]; exact h2)).trans c2⟩
theorem RdF.of_block {w : World} {g : Nat} {T : TypeId} {xs : List (Int × Int)} (h : w.heap[g]? = some (.cells (flatA xs) T)) : RdF w (some ⟨g, 0, none⟩) xs := fun k p q hk => by
  obtain ⟨c1, c2⟩ := flat_cells h hk
  refine ⟨_, rfl, ?_, ?_⟩
  · have e : Addr.add ⟨g, 0, none⟩ (k * 2) = ⟨g, k * 2, none⟩ := by unfold Addr.add; split <;> simp_all
    rw [e]; exact c1
  · have e : Addr.add ⟨g, 0, none⟩ (k * 2) = ⟨g, k * 2, none⟩ := by unfold Addr.add; split <;> simp_all
    rw [e]; exact c2
theorem RdF.of_raw {w : World} {v : Value} {xs : List (Int × Int)} (h : RawF w v xs) : ∃ A cap, v = .slice A xs.length cap ∧ RdF w A xs := by
  rcases h with ⟨rfl, rfl⟩ | ⟨ad, cap, rfl, hr⟩
  · exact ⟨none, 0, rfl, fun k p q hk => by simp at hk⟩
  · exact ⟨some ad, cap, rfl, fun k p q hk => ⟨ad, rfl, hr k p q hk⟩⟩
theorem RdF.nil {w : World} {A : Option Addr} : RdF w A [] := fun k p q hk => by simp at hk

theorem Gr.atF {w wb : World} (h : Gr w wb) {a : Addr} {v : Value} (hc : w.cell? a = some v) : ∀ (m : Nat) (os : Array Obj), (grow (wb.drewN m) os).cell? a = some v := fun m os =>
  ((h.trans ⟨⟨m, os⟩, rfl⟩).cell' (World.block_lt_of_cell? _ _ hc)).trans hc
abbrev scl (a b : Int) (A : Option Addr) (n c : Nat) : Value := .agg #[.int .i64 a, .int .i64 b, .slice A n c]
theorem keepSet' {w : World} {g : Nat} {o : Obj} {a : Addr} {v : Value} (h : w.heap[g]? = some o) (hne : g ≠ a.block) : (w.setCell a v).heap[g]? = some o := by
  rw [Below.heap_setCell _ _ _ _ hne, h]
theorem set2_new3 {w : World} {g : Nat} {x y z a b : Value} {T : TypeId} (h : w.heap[g]? = some (.cells #[x, y, z] T)) :
    ((w.setCell ⟨g, 0, none⟩ a).setCell ⟨g, 1, none⟩ b).heap[g]? = some (.cells #[a, b, z] T) := by
  have e1 := Joins.block_setCell (i := 0) h a
  simpa using Joins.block_setCell (i := 1) e1 b
end Go.Proofs.YtkeflpcokcfcjaaDoor
namespace Go.Proofs.YtkeflpcokcfcjaaDoor
open Go.RowKit Go.Sort

def mkP (a b k p q : Int) : Int := redP (n1P a b k * q + p * n1Q a b k) (n1Q a b k * q)
def mkQ (a b k p q : Int) : Int := redQ (n1P a b k * q + p * n1Q a b k) (n1Q a b k * q)
/-- Can a mark be told, its unit times k being told? -/
def mk2 (a b k p q : Int) : Bool := okB (mkP a b k p q) (mkQ a b k p q)
/-- Can a mark be told? -/
def mkB (a b k p q : Int) : Bool := n1B a b k && mk2 a b k p q
end Go.Proofs.YtkeflpcokcfcjaaDoor
namespace Go.Proofs.YtkeflpcokcfcjaaDoor
open Go.RowKit Go.Sort Go.Shelf
attribute [local go_sem] Oper.semAt_some wide_fn

/-- All marks of a scale. -/
def mks (a b : Int) (xs : List (Int × Int)) : List (Int × Int) := xs.mapIdx fun k x => (mkP a b k x.1 x.2, mkQ a b k x.1 x.2)
theorem mks_len (a b : Int) (xs : List (Int × Int)) : (mks a b xs).length = xs.length := by simp [mks]
theorem mks_get {a b : Int} {xs : List (Int × Int)} {k : Nat} {p q : Int} (h : xs[k]? = some (p, q)) : (mks a b xs)[k]? = some (mkP a b k p q, mkQ a b k p q) := by
  simp [mks, h]
def encF (l : List (Int × Int)) (k : Nat) : Array Value := #[fr (l.getD k (0, 0)).1 (l.getD k (0, 0)).2]
theorem encF_mks {a b : Int} {xs : List (Int × Int)} {k : Nat} {p q : Int} (h : xs[k]? = some (p, q)) : encF (mks a b xs) k = #[fr (mkP a b k p q) (mkQ a b k p q)] := by
  unfold encF
  rw [List.getD_eq_getElem?_getD, mks_get h]
  rfl
def TooGreat (ch : List PanicEntry) : Prop := ∃ x y, ch = [{ v := .iface 104 (fr x y), recovered := false }]
/-- Can all marks be told? -/
def AllMk (a b : Int) (xs : List (Int × Int)) : Prop := ∀ (k : Nat) (p q : Int), xs[k]? = some (p, q) → mkB a b k p q = true
end Go.Proofs.YtkeflpcokcfcjaaDoor
namespace Go.Proofs.YtkeflpcokcfcjaaDoor
open Go.RowKit Go.Sort Go.Shelf
attribute [local go_sem] Oper.semAt_some wide_fn

/-- The box of a slice that owns the first k of L. -/
def Boxed2 (w0 : World) (B : Nat) (L : List (Int × Int)) (k : Nat) (W : World) : Prop :=
  Gr w0 W ∧ ∃ v, W.heap[B]? = some (.cells #[v] 69) ∧ W.ownsRow w0.heap.size 30 2 v k (flatL (L.take k))
theorem flatL_append (xs ys : List (Int × Int)) : flatL (xs ++ ys) = flatL xs ++ flatL ys := by simp [flatL]
theorem flatL_one (p q : Int) : flatL [(p, q)] = [.int .i64 p, .int .i64 q] := by simp [flatL]
theorem own_keep {W W' : World} {v : Value} {k : Nat} {xs : List Value} {e : TypeId} {sz base : Nat} (h : W.ownsRow base e sz v k xs) (hg : Gr W W') : W'.ownsRow base e sz v k xs := by
  refine ⟨h.1, ?_⟩
  rcases h.2 with h | ⟨g, cap, cur, h1, h2, h3, h4⟩
  · exact .inl h
  · exact .inr ⟨g, cap, cur, h1, h2, hg.keep h3, h4⟩
theorem own_put {W : World} {v : Value} {k : Nat} {xs : List Value} {e : TypeId} {sz base : Nat} (h : W.ownsRow base e sz v k xs) {r : Nat} {o : Obj} (o' : Obj) (hr : W.heap[r]? = some o) (hc : o.isCells = false) : (W.putObj r o').ownsRow base e sz v k xs := by
  refine ⟨h.1, ?_⟩
  rcases h.2 with h | ⟨g, cap, cur, h1, h2, h3, h4⟩
  · exact .inl h
  · refine .inr ⟨g, cap, cur, h1, h2, (World.putObj_heap_other ?_).trans h3, h4⟩
    rintro rfl
    rw [h3] at hr
    cases hr
    cases hc
theorem heap_put {W : World} {b r : Nat} {cs : Array Value} {T : TypeId} {o : Obj} (o' : Obj) (h : W.heap[b]? = some (.cells cs T)) (hr : W.heap[r]? = some o) (hc : o.isCells = false) : (W.putObj r o').heap[b]? = some (.cells cs T) := by
  refine (World.putObj_heap_other ?_).trans h
  rintro rfl
  rw [h] at hr
  cases hr
  cases hc
/-- What is collected of a function that hands over L. -/
def seqPost (S : Option (List PanicEntry → Prop)) (L : List (Int × Int)) (w : World) (e : Ending) (w' : World) : Prop :=
  match S with
  | none => ∃ v, e = .returned v ∧ w'.ownsRow w.heap.size 30 2 v L.length (flatL L) ∧ Gr w w'
  | some S => ∃ ch, e = .panicked ch ∧ S ch ∧ Gr w w'
end Go.Proofs.YtkeflpcokcfcjaaDoor
namespace Go.Proofs.YtkeflpcokcfcjaaDoor
open Go.RowKit Go.Sort

end Go.Proofs.YtkeflpcokcfcjaaDoor
