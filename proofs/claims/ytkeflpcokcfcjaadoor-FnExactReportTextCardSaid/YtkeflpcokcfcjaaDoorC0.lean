/- WALKS: what a panic of the program's own tells, and who recovers it. -/
import Derived.Test.YtkeflpcokcfcjaaDoorB0
import Derived.Deep.RegionWith
namespace Go.Proofs.YtkeflpcokcfcjaaDoor
open Go.RowKit Go.Sort

theorem cells1 {w : World} {b : Nat} {x : Value} {T : TypeId} (h : w.heap[b]? = some (.cells #[x] T)) : w.cell? ⟨b, 0, none⟩ = some x := by
  simp [World.cell?, h]

end Go.Proofs.YtkeflpcokcfcjaaDoor
namespace Go.Proofs.YtkeflpcokcfcjaaDoor
open Go.RowKit Go.Sort

end Go.Proofs.YtkeflpcokcfcjaaDoor
namespace Go.Proofs.YtkeflpcokcfcjaaDoor
open Go.RowKit Go.Sort

def gtB (n most : Int) : Bool := decide (n < -most) || decide (most < n)

set_option maxHeartbeats 400000 in
theorem gt_any (n most : Int) (w : World) (h0 : 0 ≤ most) (h1 : most ≤ 9223372036854775807) :
    Calls Tryd.prog 54 #[.int .i64 n, .int .i64 most] w fun e w' => e = .returned (.bool (gtB n most)) ∧ w = w' := by
  unfold gtB
  by_cases h2 : n < -most
  · go_enter Tryd.func54, Tryd.ntmps54
    go_wp2
    go_ret
    exact ⟨ret_bool (by simp [h2]), rfl⟩
  · have e : decide (n < -most) = false := by simpa using h2
    rw [e]
    go_enter Tryd.func54, Tryd.ntmps54
    go_wp2
    go_ret
    exact ⟨ret_bool (by simp), rfl⟩

set_option maxHeartbeats 400000 in
/-- impl.fitting, valid -/
theorem fit_ok (p q : Int) (w : World) (h1 : gtB p 1000000000 = false) (h2 : decide (1000000000 < q) = false) :
    Calls Tryd.prog 23 #[.int .i64 p, .int .i64 q] w fun e w' => e = .returned (fr p q) ∧ Gr w w' := by
  go_enter Tryd.func23, Tryd.ntmps23
  go_wp2_with (go_at_call 54; refine (gt_any _ _ _ (by omega) (by omega)).mono ?_; rintro e w1 ⟨rfl, rfl⟩)
  refine bodyPost_ret (v := fr p q) (by simp [results, Tryd.results23, go_sem]) rfl ⟨rfl, ?_⟩
  exact Gr.alloc _ _

set_option maxHeartbeats 400000 in
/-- impl.fitting, not valid -/
theorem fit_bad (p q : Int) (w : World) (h : (gtB p 1000000000 || decide (1000000000 < q)) = true) :
    Calls Tryd.prog 23 #[.int .i64 p, .int .i64 q] w fun e w' => e = .panicked [{ v := .iface 104 (fr p q), recovered := false }] ∧ Gr w w' := by
  cases h1 : gtB p 1000000000 with
  | true =>
    clear h
    go_enter Tryd.func23, Tryd.ntmps23
    go_wp2_with (go_at_call 54; refine (gt_any _ _ _ (by omega) (by omega)).mono ?_; rintro e w1 ⟨rfl, rfl⟩)
    exact ⟨rfl, rfl, Gr.alloc _ _⟩
  | false =>
    have h2 : decide (1000000000 < q) = true := by simpa [h1] using h
    clear h
    go_enter Tryd.func23, Tryd.ntmps23
    go_wp2_with (go_at_call 54; refine (gt_any _ _ _ (by omega) (by omega)).mono ?_; rintro e w1 ⟨rfl, rfl⟩)
    exact ⟨rfl, rfl, Gr.alloc _ _⟩

theorem fits_of {p q : Int} (h : okB p q = true) : gtB p 1000000000 = false ∧ decide (1000000000 < q) = false := by
  rw [okB_iff] at h
  unfold Ok at h
  unfold gtB
  simp
  omega
theorem fits_not {p q : Int} (hq : q ≠ 0) (h : okB (redP p q) (redQ p q) = false) : (gtB (redP p q) 1000000000 || decide (1000000000 < redQ p q)) = true := by
  rw [okB_false] at h
  have h1 := redQ_pos (p := p) hq
  have h2 := red_gcd (p := p) hq
  unfold Ok at h
  unfold gtB
  simp
  omega

end Go.Proofs.YtkeflpcokcfcjaaDoor
