/- WALKS: what a panic of the program's own tells, and who recovers it. -/
import Derived.Test.YtjhlpaeenjbljaaB0
namespace Go.Proofs.Ytjhlpaeenjbljaa
open Go.RowKit Go.Sort

theorem cells1 {w : World} {b : Nat} {x : Value} {T : TypeId} (h : w.heap[b]? = some (.cells #[x] T)) : w.cell? ⟨b, 0, none⟩ = some x := by
  simp [World.cell?, h]

set_option maxHeartbeats 400000 in
theorem code_great (p q : Int) (w : World) : Calls Try.prog 176 #[fr p q] w fun e w' => e = .returned (.int .i64 3) ∧ Gr w w' := by
  go_enter Try.func176, Try.ntmps176
  go_wp2
  go_ret
  exact ⟨rfl, Gr.alloc _ _⟩

set_option maxHeartbeats 400000 in
theorem catch_idle_F (p : Addr) (w : World) :
    CallsD Try.prog 125 #[.pointer (some p)] .returning w fun e u' w' => e = .returned (.tuple #[]) ∧ u' = .returning ∧ w' = w := by
  have h1 : ∀ w, (Instr.typeAssert .nilIface 20 145 true).run Try.prog w = .ok (.tuple #[.nilIface, .bool false]) w := fun _ => by kernel_rfl
  refine callsD_of_wpS Try.func125 rfl fun c₀ cs hu => ?_
  apply wpS_seq
  apply wpS_region
  simp [wpOpsS, go_sem, recoverD, hu, Try.ntmps125, Exit.thenS, ↓h1]
  apply wpS_of_wp
  go_wp2
  cases c₀
  simp_all [bodyPostS, results, Try.results125]

set_option maxHeartbeats 400000 in
theorem catch_great_F (b : Nat) (x y : Int) (w : World) (c : Int) (T : TypeId) (hc : w.heap[b]? = some (.cells #[.int .i64 c] T)) :
    CallsD Try.prog 125 #[.pointer (some ⟨b, 0, none⟩)] (.panicking [{ v := .iface 138 (fr x y), recovered := false }]) w fun e u' w' =>
      e = .returned (.tuple #[]) ∧ u' = .panicking [{ v := .iface 138 (fr x y), recovered := true }] ∧ ∃ w1, Gr w w1 ∧ w' = w1.setCell ⟨b, 0, none⟩ (.int .i64 3) := by
  have h1 : ∀ x w, (Instr.typeAssert (.iface 138 x) 20 145 true).run Try.prog w = .ok (.tuple #[.iface 138 x, .bool true]) w := fun _ _ => by kernel_rfl
  refine callsD_of_wpS Try.func125 rfl fun c₀ cs hu => ?_
  apply wpS_seq
  apply wpS_region
  simp [wpOpsS, go_sem, recoverD, hu, Try.ntmps125, Exit.thenS, ↓h1, Array.replicate, List.replicate]
  apply wpS_of_wp
  clear hu h1
  have HC := hid hc; clear hc
  go_wp2_with (go_at_call 176; refine (code_great _ _ _).mono ?_; rintro e w1 ⟨rfl, hg⟩; have hb := hg.keep HC.out; have f0 := fz hb; have c0 := cells1 hb; have HG := hid hg; clear hg hb)
  cases c₀
  simp [bodyPostS, results, Try.results125]
  exact ⟨w1, HG.out, rfl⟩

end Go.Proofs.Ytjhlpaeenjbljaa
