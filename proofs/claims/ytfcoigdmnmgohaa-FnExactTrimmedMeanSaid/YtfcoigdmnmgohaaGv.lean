/- LEAVING: a call of one goroutine gives a row that says 'leaving' too. -/
import Derived.Conc.Holds
import Derived.Test.YtfcoigdmnmgohaaRows
namespace Go.Proofs.Ytfcoigdmnmgohaa
theorem leaving_of_alone {P : Program} {last : Machine} {w : World} {t : Trace} (h : aloneAtReturn P last w t) : leavingAtReturn P last w t :=
  ⟨h.2.1, ⟨fun g hg => ⟨0, by
    have h1 := h.1.1
    simp only [Machine.othersDone, List.all_eq_true, beq_iff_eq] at h1
    have := h1 g (by simpa using hg)
    simpa [Goroutine.LeavesIn] using this⟩, h.1.2⟩, h.2.2⟩
theorem leaving_of_handed {a : Assume} {C : Checked} {os : Os} {f : FuncId} {r : Reach} {Pre : World → Array Value → Prop} {Post : World → Array Value → Value → World → Prop} (h : ReturnsInHanded a C os f r Pre Post) : ReturnsInLeavingWide a C os f r Pre Post :=
  fun enter => ReturnsInOpen.mono (fun _ _ _ x => leaving_of_alone x) (fun _ x => x) (h enter)
end Go.Proofs.Ytfcoigdmnmgohaa
