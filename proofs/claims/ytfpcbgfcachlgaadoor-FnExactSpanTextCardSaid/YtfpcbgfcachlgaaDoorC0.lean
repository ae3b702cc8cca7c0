/- WALKS: what a panic of the program's own tells, and who recovers it. -/
import Derived.Test.YtfpcbgfcachlgaaDoorB0
import Derived.Deep.RegionWith
namespace Go.Proofs.YtfpcbgfcachlgaaDoor
open Go.RowKit Go.Sort

theorem cells1 {w : World} {b : Nat} {x : Value} {T : TypeId} (h : w.heap[b]? = some (.cells #[x] T)) : w.cell? ⟨b, 0, none⟩ = some x := by
  simp [World.cell?, h]

end Go.Proofs.YtfpcbgfcachlgaaDoor
namespace Go.Proofs.YtfpcbgfcachlgaaDoor
open Go.RowKit Go.Sort

end Go.Proofs.YtfpcbgfcachlgaaDoor
namespace Go.Proofs.YtfpcbgfcachlgaaDoor
open Go.RowKit Go.Sort

def gtB (n most : Int) : Bool := decide (n < -most) || decide (most < n)

theorem fits_of {p q : Int} (h : okB p q = true) : gtB p 1000000000 = false ∧ decide (1000000000 < q) = false := by
  rw [okB_iff] at h
  unfold Ok at h
  unfold gtB
  simp
  omega
theorem fits_not {p q : Int} (hq : q ≠ 0) (h : okB (redP p q) (redQ p q) = false) : (gtB (redP p q) 1000000000 || decide (1000000000 < redQ p q)) = true := by
  rw [okB_false] at h
  have h1 := redQ_pos (p := p) hq
  have h2 := red_gcd (p := p) hq
  unfold Ok at h
  unfold gtB
  simp
  omega

end Go.Proofs.YtfpcbgfcachlgaaDoor
