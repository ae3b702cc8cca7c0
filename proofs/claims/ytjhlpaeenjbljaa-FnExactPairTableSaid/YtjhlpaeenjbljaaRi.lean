/- WALKS: RingTable: the reference and the program. -/
import Derived.Test.YtjhlpaeenjbljaaSa
import Derived.Test.YtjhlpaeenjbljaaPr
import Derived.Test.YtjhlpaeenjbljaaEg
import Derived.Deep.RegionWith
import Derived.Deep.RegionLaw
namespace Go.Proofs.Ytjhlpaeenjbljaa
open Go.RowKit Go.Sort

/-- append to a slice of the call's own, as one step of a region that draws. -/
def ringO (xs : List (Int × Int)) : List Obv := (List.range xs.length).map fun i => pairO i ((i + 1) % xs.length) (xs.getD i (0, 0)).1 (xs.getD i (0, 0)).2
theorem ringO_len (xs : List (Int × Int)) : (ringO xs).length = xs.length := by simp [ringO]
theorem ringO_take {xs : List (Int × Int)} {k : Nat} {p q : Int} (h : xs[k]? = some (p, q)) : (ringO xs).take (k + 1) = (ringO xs).take k ++ [pairO k ((k + 1) % xs.length) p q] := by
  have hk : k < xs.length := (List.getElem?_eq_some_iff.1 h).1
  rw [List.take_succ_eq_append_getElem (by rw [ringO_len]; exact hk)]
  simp [ringO, List.getD, h]
theorem own_neO {W : World} {base b : Nat} {n : Nat} {v : Value} {xs : List Value} {cs : Array Value} (h : W.ownsRow base 104 9 v n xs) (hb : W.heap[b]? = some (.cells cs 50)) : v.ownBlock ≠ some b := by
  rcases h.2 with ⟨rfl, _⟩ | ⟨g, cap, cur, rfl, _, h3, _⟩
  · simp [Value.ownBlock]
  · intro he
    have : g = b := by simpa [Value.ownBlock] using he
    subst this
    rw [hb] at h3
    injection h3 with e1
    injection e1 with _ e2
    exact absurd e2 (by decide)
theorem own_setT {W : World} {base b i : Nat} {n : Nat} {v : Value} {xs : List Value} {cs : Array Value} (h : W.ownsRow base 104 9 v n xs) (hb : W.heap[b]? = some (.cells cs 50)) (y : Value) : (W.setCell ⟨b, i, none⟩ y).ownsRow base 104 9 v n xs := by
  refine ⟨h.1, ?_⟩
  rcases h.2 with h0 | ⟨g, cap, cur, h1, h2, h3, h4⟩
  · exact .inl h0
  · refine .inr ⟨g, cap, cur, h1, h2, keepSet' h3 ?_, h4⟩
    intro he
    have : g = b := by simpa using he
    subst this
    rw [hb] at h3
    injection h3 with e1
    injection e1 with _ e2
    exact absurd e2 (by decide)
theorem one_news9 {w : World} {b : Nat} {d0 d1 d2 d3 d4 d5 p q t : Int} {T : TypeId} (h : w.heap[b]? = some (.cells #[.int .i8 d0, .int .i8 d1, .int .i8 d2, .int .i8 d3, .int .i8 d4, .int .i8 d5, .int .i64 p, .int .i64 q, .int .i64 t] T)) :
    ∀ (j : Nat) (u : Value), (cO ⟨d0, d1, d2, d3, d4, d5, p, q, t⟩)[j]? = some u → w.cell? ((⟨b, 0, none⟩ : Addr).add j) = some u := by
  intro j u hj
  obtain ⟨n0, n1, n2, n3, n4, n5, n6, n7, n8⟩ := cells9 h
  match j with
  | 0 => simp [cO] at hj; subst hj; exact n0
  | 1 => simp [cO] at hj; subst hj; exact n1
  | 2 => simp [cO] at hj; subst hj; exact n2
  | 3 => simp [cO] at hj; subst hj; exact n3
  | 4 => simp [cO] at hj; subst hj; exact n4
  | 5 => simp [cO] at hj; subst hj; exact n5
  | 6 => simp [cO] at hj; subst hj; exact n6
  | 7 => simp [cO] at hj; subst hj; exact n7
  | 8 => simp [cO] at hj; subst hj; exact n8
  | j + 9 => simp [cO] at hj
def GivesTb (w w' : World) (e : Ending) (n : Int) (b : Bool) (p q : Int) (ys : List Obv) (C : Int) : Prop := ∃ A c, e = .returned (.tuple #[tbl n A ys.length c b p q, .int .i64 C]) ∧ w'.ownsRow w.heap.size 104 9 (.slice A ys.length c) ys.length (flO ys) ∧ Gr w w'
theorem own_nilO (w : World) (base : Nat) : w.ownsRow base 104 9 (.slice none 0 0) 0 (flO []) := World.ownsRow_nil _ _ _ _
theorem givesTb0 {w w' : World} {e : Ending} {C : Int} (h : e = .returned (.tuple #[tbl 0 none 0 0 false 0 0, .int .i64 C]) ∧ Gr w w') : GivesTb w w' e 0 false 0 0 [] C := ⟨none, 0, h.1, own_nilO _ _, h.2⟩

end Go.Proofs.Ytjhlpaeenjbljaa
