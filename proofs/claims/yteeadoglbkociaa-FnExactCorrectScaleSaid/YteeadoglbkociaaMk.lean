/- Marks of a scale of the call's own: what else stays. -/
import Derived.Test.YteeadoglbkociaaFm
import Derived.Test.YteeadoglbkociaaRegL
namespace Go.Proofs.Yteeadoglbkociaa
open Go.RowKit Go.Sort

/-- All blocks of other types stay. -/
def Others (E : TypeId) (w w' : World) : Prop := ∀ (b : Nat) (cs : Array Value) (T : TypeId), T ≠ E → w.heap[b]? = some (.cells cs T) → w'.heap[b]? = some (.cells cs T)
theorem markOwnF2 (A : Option Addr) (c : Nat) (ys : List (Int × Int)) (base : Nat) (E : TypeId) (k0 : Int) (w : World) (O : Hid (w.ownsRow base E 2 (.slice A ys.length c) ys.length (flatL ys))) (hn : ys.length ≤ 1048576) (h1 : 0 ≤ k0) (h2 : k0 ≤ 10000000) :
    Calls Try.prog 42 #[.slice A ys.length c, .int .i64 k0] w fun e w' => e = .returned (.int .i64 (k0 + ((ys.length * 2 : Nat) : Int))) ∧ (∃ g, base ≤ g ∧ Only g w w') ∧ RdF w' A (mksF k0 ys.length) ∧ Others E w w' := by
  by_cases h0 : 0 < ys.length
  · obtain ⟨g, rest, rfl, hb, hg, _, _⟩ := own_openF O.out h0
    refine (markF_any g c ys.length k0 (fracR ys rest) E w (hid hg) (by rw [fracR_size]; omega) hn h1 h2).mono ?_
    rintro e w' ⟨rfl, hx, ho⟩
    refine ⟨rfl, ⟨g, hb, ho⟩, fun k p q hk => ⟨_, rfl, ?_⟩, fun b cs T hT hcs => ho.1 b _ (fun he => ?_) hcs⟩
    · have hkl : k < ys.length := by have := (List.getElem?_eq_some_iff.1 hk).1; rwa [mksF_len] at this
      rw [mksF_get _ _ hkl] at hk
      cases hk
      rw [add_at]
      have a1 := mkA_get k0 (ys.length * 2) (fracR ys rest) (i := k * 2) (by omega) (by rw [fracR_size]; omega)
      have a2 := mkA_get k0 (ys.length * 2) (fracR ys rest) (i := k * 2 + 1) (by omega) (by rw [fracR_size]; omega)
      constructor
      · simp only [World.cell?, hx]; simpa using a1
      · simp only [World.cell?, hx]; simpa using a2
    · subst he
      rw [hg] at hcs
      injection hcs with e1
      injection e1 with _ e2
      exact hT e2.symm
  · have e : ys = [] := List.eq_nil_of_length_eq_zero (by omega)
    subst e
    refine (markF_zero A c k0 w).mono ?_
    rintro e w' ⟨rfl, rfl⟩
    exact ⟨by simp, ⟨base, Nat.le_refl _, Only.refl _ _⟩, fun k p q hk => by simp [mksF] at hk, fun b cs T _ h => h⟩
set_option maxRecDepth 20000 in
set_option maxHeartbeats 400000 in
theorem markOwnSc2 (a b : Int) (A : Option Addr) (c : Nat) (ys : List (Int × Int)) (base : Nat) (E : TypeId) (k0 : Int) (w : World) (O : Hid (w.ownsRow base E 2 (.slice A ys.length c) ys.length (flatL ys))) (hn : ys.length ≤ 1048576) (h1 : 0 ≤ k0) (h2 : k0 ≤ 10000000) :
    Calls Try.prog 52 #[scl a b A ys.length c, .int .i64 k0] w fun e w' => e = .returned (.int .i64 (k0 + ((ys.length * 2 : Nat) : Int))) ∧ (∃ g, base ≤ g ∧ Only g w w') ∧ RdF w' A (mksF k0 ys.length) ∧ Others E w w' := by
  go_enter Try.func52, Try.ntmps52
  go_wp2_with fail
  refine (markOwnF2 A c ys base E k0 _ (hid (own_gr O.out ((Gr.refl w).al _))) hn h1 h2).mono ?_
  rintro e w1 ⟨rfl, ⟨g, hb, ho⟩, hx, ht⟩
  have HX := hid hx; have HO := hid (Only.of_gr ((Gr.refl w).al _) ho)
  have HT : Hid (Others E w w1) := hid fun b cs T hT h => ht b cs T hT (((Gr.refl w).al _).keep h)
  clear hx ho ht
  go_wp2_with fail
  go_ret
  exact ⟨rfl, ⟨g, hb, HO.out⟩, HX.out, HT.out⟩
/-- What a row of the call's own, and a block that holds a row, keep when a block of another type is stored to. -/
theorem own_other {w w' : World} {base b n : Nat} {E T : TypeId} {v : Value} {xs : List Value} {cs : Array Value} (h : w.ownsRow base E 2 v n xs) (hb : w.heap[b]? = some (.cells cs T)) (hT : T ≠ E) (hs : ∀ j, j ≠ b → w'.heap[j]? = w.heap[j]?) : w'.ownsRow base E 2 v n xs := by
  refine ⟨h.1, ?_⟩
  rcases h.2 with h0 | ⟨g, cap, cur, h1, h2, h3, h4⟩
  · exact .inl h0
  · refine .inr ⟨g, cap, cur, h1, h2, ?_, h4⟩
    rw [hs g (fun he => ?_)]
    · exact h3
    · subst he
      rw [h3] at hb
      injection hb with e1
      injection e1 with _ e2
      exact hT e2.symm
theorem row_other {w w' : World} {g b : Nat} {E T : TypeId} {cs cs' : Array Value} (h : w.heap[g]? = some (.cells cs' E)) (hb : w.heap[b]? = some (.cells cs T)) (hT : T ≠ E) (hs : ∀ j, j ≠ b → w'.heap[j]? = w.heap[j]?) : w'.heap[g]? = some (.cells cs' E) := by
  rw [hs g (fun he => ?_)]
  · exact h
  · subst he
    rw [h] at hb
    injection hb with e1
    injection e1 with _ e2
    exact hT e2.symm
end Go.Proofs.Yteeadoglbkociaa
