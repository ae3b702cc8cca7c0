/- Slices of integers of the call's own: marked; what a mark leaves. -/
import Derived.Test.YtnbdafecgccojaaIv
namespace Go.Proofs.Ytnbdafecgccojaa
open Go.RowKit Go.Sort

theorem own_lt {w : World} {base : Nat} {e : TypeId} {size n c : Nat} {A : Option Addr} {xs : List Value} (h : w.ownsRow base e size (.slice A n c) n xs) : ∀ ad, A = some ad → base ≤ ad.block ∧ ad.block < w.heap.size := by
  rintro ad rfl
  exact h.lt ad.block rfl
theorem Only.keepI {w w' : World} {g : Nat} (o : Only g w w') {a : Addr} {v : Value} (hc : w.cell? a = some v) (hne : a.block ≠ g) : w'.cell? a = some v := by
  have hb := World.block_lt_of_cell? _ _ hc
  have h := o.1 a.block w.heap[a.block] hne (Array.getElem?_eq_getElem hb)
  rw [← hc]
  exact World.cell?_of_block (h.trans (Array.getElem?_eq_getElem hb).symm)
theorem RdI.only {w w' : World} {g : Nat} {A : Option Addr} {xs : List Int} (h : RdI w A xs) (o : Only g w w') (hne : ∀ ad, A = some ad → ad.block ≠ g) : RdI w' A xs := fun k p hk => by
  obtain ⟨ad, e, c⟩ := h k p hk
  exact ⟨ad, e, o.keepI c (by rw [addI_block]; exact hne ad e)⟩
theorem own_only {w w' : World} {g : Nat} {base : Nat} {e : TypeId} {size n c : Nat} {A : Option Addr} {xs : List Value} (h : w.ownsRow base e size (.slice A n c) n xs) (o : Only g w w') (hne : ∀ ad, A = some ad → ad.block ≠ g) :
    w'.ownsRow base e size (.slice A n c) n xs := by
  refine ⟨h.1, ?_⟩
  rcases h.2 with h0 | ⟨g', cap, cur, h1, h2, h3, h4⟩
  · exact .inl h0
  · injection h1 with e1 e2 e3
    exact .inr ⟨g', cap, cur, by rw [e1, e3], h2, o.1 g' _ (hne _ e1) h3, h4⟩
set_option maxRecDepth 20000 in
set_option maxHeartbeats 1000000 in
theorem markInt64S_zero (A : Option Addr) (c : Nat) (k0 : Int) (w : World) :
    Calls Try.prog 44 #[.slice A 0 c, .int .i64 k0] w fun e w' => e = .returned (.int .i64 k0) ∧ w' = w := by
  go_enter Try.func44, Try.ntmps44
  go_wp2_with fail
  go_loopw [1, 5] (fun v u wr => u = .int .i64 0 ∧ v = .int .i64 k0 ∧ wr = w) (fun _ _ _ => 0)
  case atStart => exact ⟨rfl, rfl, by simp⟩
  case round =>
    obtain ⟨rfl, rfl, rfl⟩ := hrel
    go_wp2_with fail
    go_ret
    exact ⟨rfl, by simp⟩
theorem markOwn (A : Option Addr) (c : Nat) (ys : List Int) (base : Nat) (E : TypeId) (k0 : Int) (w : World) (O : Hid (w.ownsRow base E 1 (.slice A ys.length c) ys.length (ys.map (Value.int .i64 ·)))) (hn : ys.length ≤ 1048576) (h1 : 0 ≤ k0) (h2 : k0 ≤ 1000) :
    Calls Try.prog 44 #[.slice A ys.length c, .int .i64 k0] w fun e w' => e = .returned (.int .i64 (k0 + (ys.length : Int))) ∧ ∃ g, base ≤ g ∧ Only g w w' ∧ RdI w' A (marks k0 ys.length) := by
  by_cases h0 : 0 < ys.length
  · obtain ⟨g, rest, rfl, hb, hg, _, _⟩ := own_open O.out h0
    refine (markInt64S_any g c ys.length k0 (intR ys rest) E w (hid hg) (by rw [intR_size]; omega) hn h1 h2).mono ?_
    rintro e w' ⟨rfl, hx, ho⟩
    refine ⟨rfl, g, hb, ho, fun k p hk => ⟨_, rfl, ?_⟩⟩
    have hkl : k < ys.length := by have := (List.getElem?_eq_some_iff.1 hk).1; rwa [marks_len] at this
    rw [marks_get _ _ hkl] at hk
    cases hk
    rw [add_at]
    have := mkA_get k0 ys.length (intR ys rest) hkl (by rw [intR_size]; omega)
    simp [World.cell?, hx, this]
  · have e : ys = [] := List.eq_nil_of_length_eq_zero (by omega)
    subst e
    refine (markInt64S_zero A c k0 w).mono ?_
    rintro e w' ⟨rfl, rfl⟩
    exact ⟨by simp, base, Nat.le_refl _, Only.refl _ _, fun k p hk => by simp [marks] at hk⟩
end Go.Proofs.Ytnbdafecgccojaa
