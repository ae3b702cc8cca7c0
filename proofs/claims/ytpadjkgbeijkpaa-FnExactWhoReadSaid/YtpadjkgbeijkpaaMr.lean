/- Marks of the laws: the marks of a slice of readers. -/
import Derived.Test.YtpadjkgbeijkpaaIv
import Derived.Test.YtpadjkgbeijkpaaMt
namespace Go.Proofs.Ytpadjkgbeijkpaa
open Go.RowKit Go.Sort

set_option maxRecDepth 20000 in
set_option maxHeartbeats 4000000 in
theorem markRq_any (g cap n : Nat) (k0 : Int) (cs : Array Value) (T : TypeId) (w : World) (X : Hid (w.heap[g]? = some (.cells cs T))) (hn : n * 4 ≤ cs.size) (hn2 : n ≤ 1048576) (h1 : 0 ≤ k0) (h2 : k0 ≤ 1000) :
    Calls Try.prog 27 #[.slice (some ⟨g, 0, none⟩) n cap, .int .i64 k0] w fun e w' => e = .returned (.int .i64 (k0 + (n : Int) * 4)) ∧ Only g w w' := by
  go_enter Try.func27, Try.ntmps27
  go_wp2_with fail
  go_loopw [1, 5] (fun v u wr => ∃ (k : Nat), u = .int .i64 (k : Int) ∧ v = .int .i64 (k0 + (k : Int) * 4) ∧ k ≤ n ∧ BlkN wr g T cs.size ∧ Only g w wr) (fun _ u _ => n - (intOf u).toNat)
  case atStart => exact ⟨0, rfl, by simp, by omega, ⟨cs, X.out, rfl⟩, Only.refl _ _⟩
  case round =>
    obtain ⟨k, rfl, rfl, hk, ⟨ds, x0, hds⟩, ho⟩ := hrel
    have HO := hid ho; have X0 := hid x0; have HDS := hid hds
    clear ho x0 hds
    by_cases hlt : k < n
    · go_wp2_with fail
      refine (markText_any _ _ (by omega) (by omega)).mono ?_
      rintro e w1 ⟨⟨s, rfl⟩, hg1⟩
      have x1 := hg1.keep X0.out
      have O1 : Hid (Only g w w1) := hid ⟨fun j o hj ho => hg1.keep (HO.out.1 j o hj ho), fun W0 h0 hs => (HO.out.2 W0 h0 hs).trans hg1⟩
      have hsz : k * 4 + 4 ≤ ds.size := by rw [HDS.out]; omega
      obtain ⟨v0, e0⟩ := set_any (cs := ds) (i := k * 4) (by omega)
      obtain ⟨v1, e1⟩ := set_any (cs := ds) (i := k * 4 + 1) (by omega)
      obtain ⟨v2, e2⟩ := set_any (cs := ds) (i := k * 4 + 2) (by omega)
      obtain ⟨v3, e3⟩ := set_any (cs := ds) (i := k * 4 + 3) (by omega)
      have c0 := cellMs x1 e0; have c1 := cellMs x1 e1; have c2 := cellMs x1 e2; have c3 := cellMs x1 e3
      have f1 := fz x1
      have BK : Hid (BlkN w1 g T cs.size) := hid ⟨ds, x1, HDS.out⟩
      clear hg1 x1 e0 e1 e2 e3 hsz
      go_wp2_with fail
      exact ⟨⟨k + 1, by simp, by simp; omega, by omega, ((((BK.out.set _ _).set _ _).set _ _).set _ _), ((((O1.out.set _ _).set _ _).set _ _).set _ _)⟩, by simp [intOf]; omega⟩
    · have hke : k = n := by omega
      subst hke
      go_wp2_with fail
      go_ret
      exact ⟨rfl, HO.out⟩
set_option maxRecDepth 20000 in
set_option maxHeartbeats 1000000 in
theorem markJ_any (g cap n : Nat) (k0 : Int) (cs : Array Value) (T : TypeId) (w : World) (X : Hid (w.heap[g]? = some (.cells cs T))) (hn : n ≤ cs.size) (hn2 : n ≤ 1048576) (h1 : 0 ≤ k0) (h2 : k0 ≤ 10000000) :
    Calls Try.prog 20 #[.slice (some ⟨g, 0, none⟩) n cap, .int .i64 k0] w fun e w' => e = .returned (.int .i64 (k0 + (n : Int))) ∧ w'.heap[g]? = some (.cells (mkA k0 n cs) T) ∧ Only g w w' := by
  go_enter Try.func20, Try.ntmps20
  go_wp2_with fail
  go_loopw [1, 5] (fun v u wr => ∃ (k : Nat), u = .int .i64 (k : Int) ∧ v = .int .i64 (k0 + (k : Int)) ∧ k ≤ n ∧ wr.heap[g]? = some (.cells (mkA k0 k cs) T) ∧ Only g w wr) (fun _ u _ => n - (intOf u).toNat)
  case atStart => exact ⟨0, rfl, by simp, by omega, by rw [mkA_zero]; exact X.out, Only.refl _ _⟩
  case round =>
    obtain ⟨k, rfl, rfl, hk, x0, ho⟩ := hrel
    have HO := hid ho; have X0 := hid x0
    clear ho
    by_cases hlt : k < n
    · obtain ⟨v0, hv0⟩ : ∃ v, (mkA k0 k cs)[k]? = some v := ⟨_, Array.getElem?_eq_getElem (by rw [mkA_size]; omega)⟩
      have c1 : wr.cell? ⟨g, k, none⟩ = some v0 := by simp [World.cell?, x0, hv0]
      have f1 := fz x0
      clear x0 hv0
      go_wp2_with fail
      refine ⟨⟨k + 1, by simp, by simp; omega, by omega, ?_, HO.out.set _ _⟩, by simp [intOf]; omega⟩
      have e1 := Joins.block_setCell (i := k) X0.out (.int .i64 (k0 + (k : Int)))
      rw [mkA_succ] at e1
      exact e1
    · have hke : k = n := by omega
      subst hke
      clear x0
      go_wp2_with fail
      go_ret
      exact ⟨rfl, X0.out, HO.out⟩
end Go.Proofs.Ytpadjkgbeijkpaa
