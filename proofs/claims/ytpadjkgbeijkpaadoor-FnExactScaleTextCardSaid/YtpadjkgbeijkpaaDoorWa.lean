/- A scale whose errors lie in the midst of memory of the call's own: reading, marks, told. -/
import Derived.Test.YtpadjkgbeijkpaaDoorCs
import Derived.Test.YtpadjkgbeijkpaaDoorMk
import Derived.Test.YtpadjkgbeijkpaaDoorOg
namespace Go.Proofs.YtpadjkgbeijkpaaDoor
open Go.RowKit Go.Sort

/-- These fractions lie, from some cell on, in a block of fractions. -/
def OwnW (w : World) (A : Option Addr) (ys : List (Int × Int)) : Prop := ys = [] ∨ ∃ (g o : Nat) (cs : Array Value), A = some ⟨g, o, none⟩ ∧ w.heap[g]? = some (.cells cs 23) ∧ o + ys.length * 2 ≤ cs.size ∧ ∀ (k : Nat) (p q : Int), ys[k]? = some (p, q) → cs[o + k * 2]? = some (.int .i64 p) ∧ cs[o + k * 2 + 1]? = some (.int .i64 q)
theorem OwnW.rd {w : World} {A : Option Addr} {ys : List (Int × Int)} (h : OwnW w A ys) : RdF w A ys := fun k p q hk => by
  rcases h with rfl | ⟨g, o, cs, rfl, hg, _, hc⟩
  · simp at hk
  · obtain ⟨c1, c2⟩ := hc k p q hk
    refine ⟨_, rfl, ?_, ?_⟩
    · rw [add_at2]; simp [World.cell?, hg, c1]
    · rw [add_at2]; simp [World.cell?, hg, c2]
theorem OwnW.keep {w w' : World} {A : Option Addr} {ys : List (Int × Int)} (h : OwnW w A ys) (hg : Gr w w') : OwnW w' A ys := by
  rcases h with rfl | ⟨g, o, cs, rfl, h1, h2, hc⟩
  · exact .inl rfl
  · exact .inr ⟨g, o, cs, rfl, hg.keep h1, h2, hc⟩
theorem OwnW.only {w w' : World} {g : Nat} {A : Option Addr} {ys : List (Int × Int)} (h : OwnW w A ys) (o : Only g w w') (hne : ∀ ad, A = some ad → ad.block ≠ g) : OwnW w' A ys := by
  rcases h with rfl | ⟨g', o', cs, rfl, h1, h2, hc⟩
  · exact .inl rfl
  · exact .inr ⟨g', o', cs, rfl, o.1 _ _ (hne _ rfl) h1, h2, hc⟩
theorem OwnW.set {w : World} {A : Option Addr} {ys : List (Int × Int)} (h : OwnW w A ys) {a : Addr} (hne : ∀ ad, A = some ad → ad.block ≠ a.block) (v : Value) : OwnW (w.setCell a v) A ys := by
  rcases h with rfl | ⟨g', o', cs, rfl, h1, h2, hc⟩
  · exact .inl rfl
  · exact .inr ⟨g', o', cs, rfl, keepSet' h1 (hne _ rfl), h2, hc⟩
theorem OwnW.of_own {w : World} {base c : Nat} {A : Option Addr} {ys : List (Int × Int)} (h : w.ownsRow base 23 2 (.slice A ys.length c) ys.length (flatL ys)) : OwnW w A ys := by
  by_cases h0 : 0 < ys.length
  · obtain ⟨g, rest, rfl, _, hg, _, _⟩ := own_openF h h0
    refine .inr ⟨g, 0, _, rfl, hg, by rw [fracR_size]; omega, fun k p q hk => ?_⟩
    have := fracR_get (rest := rest) hk
    simpa using this
  · exact .inl (List.eq_nil_of_length_eq_zero (by omega))
def GivesW (w w' : World) (e : Ending) (a b : Int) (ys : List (Int × Int)) (C : Int) : Prop := ∃ A c, e = .returned (.tuple #[scl a b A ys.length c, .int .i64 C]) ∧ (∀ ad, A = some ad → w.heap.size ≤ ad.block ∧ ad.block < w'.heap.size) ∧ OwnW w' A ys ∧ Gr w w'
theorem givesW_of {w w' : World} {e : Ending} {a b : Int} {ys : List (Int × Int)} {C : Int} (h : GivesS w w' e a b ys C) : GivesW w w' e a b ys C := by
  obtain ⟨A, c, he, ho, hg⟩ := h
  exact ⟨A, c, he, own_lt ho, OwnW.of_own ho, hg⟩
end Go.Proofs.YtpadjkgbeijkpaaDoor
