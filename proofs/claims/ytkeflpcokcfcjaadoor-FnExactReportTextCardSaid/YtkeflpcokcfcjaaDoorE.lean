/- WALKS: the four operations, and the closures in which they are done. -/
import Derived.Test.YtkeflpcokcfcjaaDoorC0
import Derived.Laws.EntriesVeiled
namespace Go.Proofs.YtkeflpcokcfcjaaDoor
open Go.RowKit Go.Sort

end Go.Proofs.YtkeflpcokcfcjaaDoor
namespace Go.Proofs.YtkeflpcokcfcjaaDoor
open Go.RowKit Go.Sort

set_option maxHeartbeats 400000 in
/-- impl.ValidFrac -/
theorem iok_yes (p q : Int) (w : World) (h1 : 1 ≤ q) (h2 : q ≤ 1000000000) (h3 : -1000000000 ≤ p) (h4 : p ≤ 1000000000) :
    Calls Tryd.prog 50 #[fr p q] w fun e w' => e = .returned (.bool (((Int.gcd p q : Nat) : Int) == 1)) ∧ Gr w w' := by
  go_enter Tryd.func50, Tryd.ntmps50
  go_wp2_with (go_at_call 73; refine (cd_any _ _ _ (by omega) (by omega) (by omega) (by omega)).mono ?_; rintro e w1 ⟨rfl, rfl⟩)
  go_ret
  exact ⟨rfl, Gr.alloc _ _⟩
set_option maxHeartbeats 400000 in
theorem iok_q1 (p q : Int) (w : World) (h1 : q < 1) :
    Calls Tryd.prog 50 #[fr p q] w fun e w' => e = .returned (.bool false) ∧ Gr w w' := by
  go_enter Tryd.func50, Tryd.ntmps50
  go_wp2_with fail
  go_ret
  exact ⟨rfl, Gr.alloc _ _⟩
set_option maxHeartbeats 400000 in
theorem iok_q2 (p q : Int) (w : World) (h1 : 1 ≤ q) (h2 : 1000000000 < q) :
    Calls Tryd.prog 50 #[fr p q] w fun e w' => e = .returned (.bool false) ∧ Gr w w' := by
  go_enter Tryd.func50, Tryd.ntmps50
  go_wp2_with fail
  go_ret
  exact ⟨rfl, Gr.alloc _ _⟩
set_option maxHeartbeats 400000 in
theorem iok_p1 (p q : Int) (w : World) (h1 : 1 ≤ q) (h2 : q ≤ 1000000000) (h3 : p < -1000000000) :
    Calls Tryd.prog 50 #[fr p q] w fun e w' => e = .returned (.bool false) ∧ Gr w w' := by
  go_enter Tryd.func50, Tryd.ntmps50
  go_wp2_with fail
  go_ret
  exact ⟨rfl, Gr.alloc _ _⟩
set_option maxHeartbeats 400000 in
theorem iok_p2 (p q : Int) (w : World) (h1 : 1 ≤ q) (h2 : q ≤ 1000000000) (h3 : -1000000000 ≤ p) (h4 : 1000000000 < p) :
    Calls Tryd.prog 50 #[fr p q] w fun e w' => e = .returned (.bool false) ∧ Gr w w' := by
  go_enter Tryd.func50, Tryd.ntmps50
  go_wp2_with fail
  go_ret
  exact ⟨rfl, Gr.alloc _ _⟩
theorem okB_no {p q : Int} (h : q < 1 ∨ 1000000000 < q ∨ p < -1000000000 ∨ 1000000000 < p) : okB p q = false := by
  rw [okB_false]; unfold Ok; omega
/-- impl.ValidFrac -/
theorem iok_any (p q : Int) (w : World) :
    Calls Tryd.prog 50 #[fr p q] w fun e w' => e = .returned (.bool (okB p q)) ∧ Gr w w' := by
  by_cases h1 : q < 1
  · rw [okB_no (by omega)]; exact iok_q1 p q w h1
  by_cases h2 : 1000000000 < q
  · rw [okB_no (by omega)]; exact iok_q2 p q w (by omega) h2
  by_cases h3 : p < -1000000000
  · rw [okB_no (by omega)]; exact iok_p1 p q w (by omega) (by omega) h3
  by_cases h4 : 1000000000 < p
  · rw [okB_no (by omega)]; exact iok_p2 p q w (by omega) (by omega) (by omega) h4
  have e : okB p q = (((Int.gcd p q : Nat) : Int) == 1) := by
    rw [Bool.eq_iff_iff, okB_iff]; unfold Ok; simp; omega
  rw [e]
  exact iok_yes p q w (by omega) (by omega) (by omega) (by omega)

end Go.Proofs.YtkeflpcokcfcjaaDoor
namespace Go.Proofs.YtkeflpcokcfcjaaDoor
open Go.RowKit Go.Sort

theorem okB_bd {p q : Int} (h : okB p q = true) : 1 ≤ q ∧ q ≤ 1000000000 ∧ -1000000000 ≤ p ∧ p ≤ 1000000000 := by
  rw [okB_iff] at h; unfold Ok at h; omega
end Go.Proofs.YtkeflpcokcfcjaaDoor
