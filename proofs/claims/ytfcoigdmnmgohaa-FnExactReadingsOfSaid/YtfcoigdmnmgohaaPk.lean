/- WALKS: ReadingOf, of the program and of the reference. -/
import Derived.Test.YtfcoigdmnmgohaaNn
import Derived.Test.YtfcoigdmnmgohaaPa
import Derived.Test.YtfcoigdmnmgohaaC1
import Derived.Test.YtfcoigdmnmgohaaT
import Derived.Test.YtfcoigdmnmgohaaV
namespace Go.Proofs.Ytfcoigdmnmgohaa
open Go.RowKit Go.Sort

set_option maxHeartbeats 400000 in
theorem code_nor (n : Int) (w : World) : Calls Try.prog 278 #[.int .i64 n] w fun e w' => e = .returned (.int .i64 2) ∧ Gr w w' := by
  go_enter Try.func278, Try.ntmps278
  go_wp2
  go_ret
  exact ⟨rfl, Gr.refl _⟩
set_option maxRecDepth 20000 in
set_option maxHeartbeats 600000 in
theorem ireading_ok (b u p q : Int) (o : Bool) (r : Int) (w : World) (B : RdBd b u p q) (hr : rdV b u o p q = r) (h : okR r = true) :
    Calls Try.prog 90 #[gs b u o, fr p q] w fun e w' => e = .returned (.int .i64 r) ∧ Gr w w' := by
  have HM := hid fun (w : World) => imult b u p q o w B
  rw [hr] at HM
  have hg := fun (w : World) => gt_any r 1000000 w (by omega) (by omega)
  rw [gt_inM, show inB r (-1000000) 1000000 = true from h] at hg
  have HG := hid hg
  clear hg h hr B
  go_enter Try.func90, Try.ntmps90
  go_wp2_with fail
  refine (HM.out _).mono ?_
  rintro e w1 ⟨rfl, hg1⟩
  obtain ⟨x1_0, x1_1, hz1, g1⟩ := alloc2 hg1
  obtain ⟨_, _, _⟩ := cells3 x1_0
  have _ := fz x1_0
  have _ := ltb x1_0
  obtain ⟨_, _⟩ := cells2 x1_1
  have _ := fz x1_1
  have _ := ltb x1_1
  have X1_0 := hid x1_0; clear x1_0
  have X1_1 := hid x1_1; clear x1_1
  have G1 := hid (g1)
  clear hg1 g1
  go_wp2_with (go_at_call 132; refine (HG.out _).mono ?_; rintro e w2 ⟨rfl, rfl⟩)
  go_ret
  exact ⟨rfl, G1.out⟩
set_option maxRecDepth 20000 in
set_option maxHeartbeats 600000 in
theorem ireading_bad (b u p q : Int) (o : Bool) (r : Int) (w : World) (B : RdBd b u p q) (hr : rdV b u o p q = r) (h : okR r = false) :
    Calls Try.prog 90 #[gs b u o, fr p q] w fun e w' => (∃ n, e = .panicked [{ v := .iface 181 (.int .i64 n), recovered := false }]) ∧ Gr w w' := by
  have HM := hid fun (w : World) => imult b u p q o w B
  rw [hr] at HM
  have hg := fun (w : World) => gt_any r 1000000 w (by omega) (by omega)
  rw [gt_inM, show inB r (-1000000) 1000000 = false from h] at hg
  have HG := hid hg
  clear hg h hr B
  go_enter Try.func90, Try.ntmps90
  go_wp2_with fail
  refine (HM.out _).mono ?_
  rintro e w1 ⟨rfl, hg1⟩
  obtain ⟨x1_0, x1_1, hz1, g1⟩ := alloc2 hg1
  obtain ⟨_, _, _⟩ := cells3 x1_0
  have _ := fz x1_0
  have _ := ltb x1_0
  obtain ⟨_, _⟩ := cells2 x1_1
  have _ := fz x1_1
  have _ := ltb x1_1
  have X1_0 := hid x1_0; clear x1_0
  have X1_1 := hid x1_1; clear x1_1
  have G1 := hid (g1)
  clear hg1 g1
  go_wp2_with (go_at_call 132; refine (HG.out _).mono ?_; rintro e w2 ⟨rfl, rfl⟩)
  exact ⟨rfl, ⟨r, rfl⟩, G1.out⟩
theorem iVR_is (s : ByteArray) (b u : Int) (o : Bool) (r : Bool) (w : World) (hb : W16 b) (hu : W16 u) (h : rrB s b u = r) :
    Calls Try.prog 84 #[rdr s b u o] w fun e w' => e = .returned (.bool r) ∧ Gr w w' := h ▸ iVReader s b u o w hb hu
theorem sOkR_is (s : ByteArray) (b u : Int) (o : Bool) (r : Bool) (w : World) (hb : W16 b) (hu : W16 u) (h : rrB s b u = r) (k : Nat) (T : TypeId) (X : Hid (w.heap[k]? = some (.cells #[.string s, .int .i16 b, .int .i16 u, .bool o] T))) :
    Calls Try.prog 78 #[.pointer (some ⟨k, 0, none⟩)] w fun e w' => e = .returned (.bool r) ∧ Gr w w' := h ▸ sOkR s b u o w hb hu k T X
theorem rr_gs {s : ByteArray} {b u : Int} (h : rrB s b u = true) : gsB b u = true := by unfold rrB at h; simp at h; exact h.2
theorem splain_is (n : Int) (r : Bool) (w : World) (h : okR n = r) : Calls Try.prog 83 #[.int .i64 n] w fun e w' => e = .returned (.bool r) ∧ w = w' := h ▸ splain n w
end Go.Proofs.Ytfcoigdmnmgohaa
