/- Marks of the laws: the marks of a slice of spans. -/
import Derived.Test.YtpadjkgbeijkpaaSn
import Derived.Test.YtpadjkgbeijkpaaFm
namespace Go.Proofs.Ytpadjkgbeijkpaa
open Go.RowKit Go.Sort

def mksN (k0 : Int) (n : Nat) : List Spv := (List.range n).map fun i => ⟨k0 + ((i * 4 : Nat) : Int), k0 + ((i * 4 + 1 : Nat) : Int), k0 + ((i * 4 + 2 : Nat) : Int), k0 + ((i * 4 + 3 : Nat) : Int)⟩
theorem mksN_len (k0 : Int) (n : Nat) : (mksN k0 n).length = n := by simp [mksN]
theorem mksN_get (k0 : Int) (n : Nat) {i : Nat} (h : i < n) : (mksN k0 n)[i]? = some ⟨k0 + ((i * 4 : Nat) : Int), k0 + ((i * 4 + 1 : Nat) : Int), k0 + ((i * 4 + 2 : Nat) : Int), k0 + ((i * 4 + 3 : Nat) : Int)⟩ := by simp [mksN, h]
set_option maxRecDepth 20000 in
set_option maxHeartbeats 2000000 in
theorem markN_any (g cap n : Nat) (k0 : Int) (cs : Array Value) (T : TypeId) (w : World) (X : Hid (w.heap[g]? = some (.cells cs T))) (hn : n * 4 ≤ cs.size) (hn2 : n ≤ 1048576) (h1 : 0 ≤ k0) (h2 : k0 ≤ 10000000) :
    Calls Try.prog 36 #[.slice (some ⟨g, 0, none⟩) n cap, .int .i64 k0] w fun e w' => e = .returned (.int .i64 (k0 + ((n * 4 : Nat) : Int))) ∧ w'.heap[g]? = some (.cells (mkA k0 (n * 4) cs) T) ∧ Only g w w' := by
  go_enter Try.func36, Try.ntmps36
  go_wp2_with fail
  go_loopw [1, 5] (fun v u wr => ∃ (k : Nat), u = .int .i64 (k : Int) ∧ v = .int .i64 (k0 + (k : Int) * 4) ∧ k ≤ n ∧ wr.heap[g]? = some (.cells (mkA k0 (k * 4) cs) T) ∧ Only g w wr) (fun _ u _ => n - (intOf u).toNat)
  case atStart => exact ⟨0, rfl, by simp, by omega, by rw [Nat.zero_mul, mkA_zero]; exact X.out, Only.refl _ _⟩
  case round =>
    obtain ⟨k, rfl, rfl, hk, x0, ho⟩ := hrel
    have HO := hid ho; have X0 := hid x0
    clear ho
    by_cases hlt : k < n
    · obtain ⟨v0, hv0⟩ : ∃ v, (mkA k0 (k * 4) cs)[k * 4]? = some v := ⟨_, Array.getElem?_eq_getElem (by rw [mkA_size]; omega)⟩
      obtain ⟨v1, hv1⟩ : ∃ v, (mkA k0 (k * 4) cs)[k * 4 + 1]? = some v := ⟨_, Array.getElem?_eq_getElem (by rw [mkA_size]; omega)⟩
      obtain ⟨v2, hv2⟩ : ∃ v, (mkA k0 (k * 4) cs)[k * 4 + 2]? = some v := ⟨_, Array.getElem?_eq_getElem (by rw [mkA_size]; omega)⟩
      obtain ⟨v3, hv3⟩ : ∃ v, (mkA k0 (k * 4) cs)[k * 4 + 3]? = some v := ⟨_, Array.getElem?_eq_getElem (by rw [mkA_size]; omega)⟩
      have c0 : wr.cell? ⟨g, k * 4, none⟩ = some v0 := by simp [World.cell?, x0, hv0]
      have c1 : wr.cell? ⟨g, k * 4 + 1, none⟩ = some v1 := by simp [World.cell?, x0, hv1]
      have c2 : wr.cell? ⟨g, k * 4 + 2, none⟩ = some v2 := by simp [World.cell?, x0, hv2]
      have c3 : wr.cell? ⟨g, k * 4 + 3, none⟩ = some v3 := by simp [World.cell?, x0, hv3]
      have f1 := fz x0
      have e1 := Joins.block_setCell (i := k * 4) X0.out (.int .i64 (k0 + ((k * 4 : Nat) : Int)))
      rw [mkA_succ] at e1
      have e2 := Joins.block_setCell (i := k * 4 + 1) e1 (.int .i64 (k0 + ((k * 4 + 1 : Nat) : Int)))
      rw [mkA_succ] at e2
      have e3 := Joins.block_setCell (i := k * 4 + 2) e2 (.int .i64 (k0 + ((k * 4 + 2 : Nat) : Int)))
      rw [mkA_succ] at e3
      have e4 := Joins.block_setCell (i := k * 4 + 3) e3 (.int .i64 (k0 + ((k * 4 + 3 : Nat) : Int)))
      rw [mkA_succ] at e4
      have E4 := hid e4
      clear x0 hv0 hv1 hv2 hv3 e1 e2 e3 e4
      go_wp2_with fail
      refine ⟨⟨k + 1, by simp, by simp; omega, by omega, ?_, (((HO.out.set _ _).set _ _).set _ _).set _ _⟩, by simp [intOf]; omega⟩
      have e5 := E4.out
      rw [show (k + 1) * 4 = k * 4 + 3 + 1 by omega]
      have q1 : k0 + ((k * 4 : Nat) : Int) = k0 + (k : Int) * 4 := by omega
      have q2 : k0 + ((k * 4 + 1 : Nat) : Int) = k0 + (k : Int) * 4 + 1 := by omega
      have q3 : k0 + ((k * 4 + 2 : Nat) : Int) = k0 + (k : Int) * 4 + 1 + 1 := by omega
      have q4 : k0 + ((k * 4 + 3 : Nat) : Int) = k0 + (k : Int) * 4 + 1 + 1 + 1 := by omega
      rw [q1, q2, q3, q4] at e5
      exact e5
    · have hke : k = n := by omega
      subst hke
      clear x0
      go_wp2_with fail
      go_ret
      exact ⟨ret_int (by omega), X0.out, HO.out⟩
set_option maxRecDepth 20000 in
set_option maxHeartbeats 2000000 in
theorem heldN_any (A : Option Addr) (c n : Nat) (k0 : Int) (w : World) (X : Hid (RdN w A (mksN k0 n))) (hn2 : n ≤ 1048576) (h1 : 0 ≤ k0) (h2 : k0 ≤ 10000000) :
    Calls Try.prog 37 #[.slice A n c, .int .i64 k0] w fun e w' => e = .returned (.int .i64 (k0 + ((n * 4 : Nat) : Int))) ∧ Gr w w' := by
  go_enter Try.func37, Try.ntmps37
  go_wp2_with fail
  go_loopw [1, 5] (fun v u wr => ∃ (k : Nat), u = .int .i64 (k : Int) ∧ v = .int .i64 (k0 + ((k * 4 : Nat) : Int)) ∧ k ≤ n ∧ w = wr) (fun _ u _ => n - (intOf u).toNat)
  case atStart => exact ⟨0, rfl, by simp, by omega, rfl⟩
  case round =>
    obtain ⟨k, rfl, rfl, hk, rfl⟩ := hrel
    by_cases hlt : k < n
    · obtain ⟨ad, rfl, c⟩ := X.out k _ (mksN_get k0 n hlt)
      obtain ⟨c0, c1, c2, c3⟩ := c
      have e1 : k0 + ((k * 4 + 1 : Nat) : Int) = k0 + ((k * 4 : Nat) : Int) + 1 := by omega
      have e2 : k0 + ((k * 4 + 2 : Nat) : Int) = k0 + ((k * 4 : Nat) : Int) + 1 + 1 := by omega
      have e3 : k0 + ((k * 4 + 3 : Nat) : Int) = k0 + ((k * 4 : Nat) : Int) + 1 + 1 + 1 := by omega
      simp only at c0 c1 c2 c3
      rw [e1] at c1
      rw [e2] at c2
      rw [e3] at c3
      go_wp2_with fail
      exact ⟨⟨k + 1, by simp, by simp; omega, by omega, by simp⟩, by simp [intOf]; omega⟩
    · have hke : k = n := by omega
      subst hke
      go_wp2_with fail
      go_ret
      exact ⟨rfl, Gr.refl _⟩
set_option maxRecDepth 20000 in
set_option maxHeartbeats 400000 in
theorem markN_zero (A : Option Addr) (c : Nat) (k0 : Int) (w : World) :
    Calls Try.prog 36 #[.slice A 0 c, .int .i64 k0] w fun e w' => e = .returned (.int .i64 k0) ∧ w' = w := by
  go_enter Try.func36, Try.ntmps36
  go_wp2_with fail
  go_loopw [1, 5] (fun v u wr => u = .int .i64 0 ∧ v = .int .i64 k0 ∧ wr = w) (fun _ _ _ => 0)
  case atStart => exact ⟨rfl, rfl, by simp⟩
  case round =>
    obtain ⟨rfl, rfl, rfl⟩ := hrel
    go_wp2_with fail
    go_ret
    exact ⟨rfl, by simp⟩
theorem markOwnN (A : Option Addr) (c : Nat) (ys : List Spv) (base : Nat) (E : TypeId) (k0 : Int) (w : World) (O : Hid (w.ownsRow base E 4 (.slice A ys.length c) ys.length (flN ys))) (hn : ys.length ≤ 1048576) (h1 : 0 ≤ k0) (h2 : k0 ≤ 10000000) :
    Calls Try.prog 36 #[.slice A ys.length c, .int .i64 k0] w fun e w' => e = .returned (.int .i64 (k0 + ((ys.length * 4 : Nat) : Int))) ∧ ∃ g, base ≤ g ∧ Only g w w' ∧ RdN w' A (mksN k0 ys.length) := by
  by_cases h0 : 0 < ys.length
  · obtain ⟨g, rest, rfl, hb, hg, _, _⟩ := own_openN O.out h0
    refine (markN_any g c ys.length k0 (rowN ys rest) E w (hid hg) (by rw [rowN_size]; omega) hn h1 h2).mono ?_
    rintro e w' ⟨rfl, hx, ho⟩
    refine ⟨rfl, g, hb, ho, fun k p hk => ⟨_, rfl, ?_⟩⟩
    have hkl : k < ys.length := by have := (List.getElem?_eq_some_iff.1 hk).1; rwa [mksN_len] at this
    rw [mksN_get _ _ hkl] at hk
    cases hk
    rw [add_at]
    have a1 := mkA_get k0 (ys.length * 4) (rowN ys rest) (i := k * 4) (by omega) (by rw [rowN_size]; omega)
    have a2 := mkA_get k0 (ys.length * 4) (rowN ys rest) (i := k * 4 + 1) (by omega) (by rw [rowN_size]; omega)
    have a3 := mkA_get k0 (ys.length * 4) (rowN ys rest) (i := k * 4 + 2) (by omega) (by rw [rowN_size]; omega)
    have a4 := mkA_get k0 (ys.length * 4) (rowN ys rest) (i := k * 4 + 3) (by omega) (by rw [rowN_size]; omega)
    constructor
    · simp only [World.cell?, hx]; simpa using a1
    · simp only [World.cell?, hx]; simpa using a2
    · simp only [World.cell?, hx]; simpa using a3
    · simp only [World.cell?, hx]; simpa using a4
  · have e : ys = [] := List.eq_nil_of_length_eq_zero (by omega)
    subst e
    refine (markN_zero A c k0 w).mono ?_
    rintro e w' ⟨rfl, rfl⟩
    exact ⟨by simp, base, Nat.le_refl _, Only.refl _ _, fun k p hk => by simp [mksN] at hk⟩
end Go.Proofs.Ytpadjkgbeijkpaa
