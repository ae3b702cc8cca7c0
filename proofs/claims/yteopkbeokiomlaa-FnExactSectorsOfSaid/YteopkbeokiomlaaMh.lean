/- WALKS: the mark that the laws put on the faults of a disk. -/
import Derived.Test.YteopkbeokiomlaaDk
import Derived.Test.YteopkbeokiomlaaHb
namespace Go.Proofs.Yteopkbeokiomlaa
open Go.RowKit Go.Sort

set_option maxRecDepth 20000 in
set_option maxHeartbeats 1000000 in
theorem markInt16S_any (g cap n : Nat) (k0 : Int) (cs : Array Value) (T : TypeId) (w : World) (X : Hid (w.heap[g]? = some (.cells cs T))) (hn : n ≤ cs.size) (hn2 : n ≤ 1048576) (h1 : 0 ≤ k0) (h2 : k0 ≤ 1000) :
    Calls Try.prog 95 #[.slice (some ⟨g, 0, none⟩) n cap, .int .i64 k0] w fun e w' => e = .returned (.int .i64 (k0 + (n : Int))) ∧ Only g w w' := by
  go_enter Try.func95, Try.ntmps95
  go_wp2_with fail
  go_loopw [1, 5] (fun v u wr => ∃ (k : Nat) (ds : Array Value), u = .int .i64 (k : Int) ∧ v = .int .i64 (k0 + (k : Int)) ∧ k ≤ n ∧ wr.heap[g]? = some (.cells ds T) ∧ ds.size = cs.size ∧ Only g w wr) (fun _ u _ => n - (intOf u).toNat)
  case atStart => exact ⟨0, cs, rfl, by simp, by omega, X.out, rfl, Only.refl _ _⟩
  case round =>
    obtain ⟨k, ds, rfl, rfl, hk, x0, hds, ho⟩ := hrel
    have HO := hid ho; have X0 := hid x0; have HDS := hid hds
    clear ho
    by_cases hlt : k < n
    · obtain ⟨v0, hv0⟩ : ∃ v, ds[k]? = some v := ⟨_, Array.getElem?_eq_getElem (by omega)⟩
      have c1 : wr.cell? ⟨g, k, none⟩ = some v0 := by simp [World.cell?, x0, hv0]
      have f1 := fz x0
      clear x0 hv0 hds
      go_wp2_with fail
      exact ⟨⟨k + 1, _, by simp, by simp; omega, by omega, Joins.block_setCell (i := k) X0.out _, by simp [HDS.out], HO.out.set _ _⟩, by simp [intOf]; omega⟩
    · have hke : k = n := by omega
      subst hke
      clear x0 hds
      go_wp2_with fail
      go_ret
      exact ⟨rfl, HO.out⟩
set_option maxRecDepth 20000 in
set_option maxHeartbeats 1000000 in
theorem markDk_any (g c : Nat) (xs : List Int) (e no k0 : Int) (T : TypeId) (w : World) (X : Hid (w.heap[g]? = some (.cells (h16A xs) T))) (hn : xs.length ≤ 1048576) (h1 : 0 ≤ k0) (h2 : k0 ≤ 1000) :
    Calls Try.prog 37 #[dk (some ⟨g, 0, none⟩) xs.length c e no, .int .i64 k0] w fun e w' => e = .returned (.int .i64 (k0 + (xs.length : Int))) ∧ Only g w w' := by
  go_enter Try.func37, Try.ntmps37
  go_wp2_with fail
  refine (markInt16S_any g c xs.length k0 (h16A xs) T _ (hid (((Gr.refl w).al _).keep X.out)) (by rw [h16A_size]; exact Nat.le_refl _) hn h1 h2).mono ?_
  rintro x w1 ⟨rfl, on1⟩
  have ON := hid on1; clear on1
  go_wp2_with fail
  go_ret
  exact ⟨rfl, Only.gr ((Gr.refl w).al _) ON.out⟩
end Go.Proofs.Yteopkbeokiomlaa
