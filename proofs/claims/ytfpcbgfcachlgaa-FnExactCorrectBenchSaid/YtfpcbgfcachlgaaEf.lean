/- WALKS: fractions that are looked at, and the scale that is made of its first error and of those of its intervals, of the program and of the reference. -/
import Derived.Test.YtfpcbgfcachlgaaFm
import Derived.Test.YtfpcbgfcachlgaaAf
import Derived.Test.YtfpcbgfcachlgaaRegC
import Derived.Test.YtfpcbgfcachlgaaSkf
import Derived.Test.YtfpcbgfcachlgaaFu
namespace Go.Proofs.Ytfpcbgfcachlgaa
open Go.RowKit Go.Sort

/-! told, of a scale -/
set_option maxHeartbeats 400000 in
theorem catch_idle_Z (p : Addr) (w : World) :
    CallsD Try.prog 194 #[.pointer (some p)] .returning w fun e u' w' => e = .returned (.tuple #[]) ∧ u' = .returning ∧ w' = w := by
  have h1 : ∀ w, (Instr.typeAssert .nilIface 20 193 true).run Try.prog w = .ok (.tuple #[.nilIface, .bool false]) w := fun _ => by kernel_rfl
  refine callsD_of_wpS Try.func194 rfl fun c₀ cs hu => ?_
  apply wpS_seq
  apply wpS_region
  simp [wpOpsS, go_sem, recoverD, hu, Try.ntmps194, Exit.thenS, ↓h1]
  apply wpS_of_wp
  go_wp2
  cases c₀
  simp_all [bodyPostS, results, Try.results194]
set_option maxHeartbeats 400000 in
theorem catch_great_Z (b : Nat) (x y : Int) (w : World) (c : Int) (T : TypeId) (hc : w.heap[b]? = some (.cells #[.int .i64 c] T)) :
    CallsD Try.prog 194 #[.pointer (some ⟨b, 0, none⟩)] (.panicking [{ v := .iface 258 (fr x y), recovered := false }]) w fun e u' w' =>
      e = .returned (.tuple #[]) ∧ u' = .panicking [{ v := .iface 258 (fr x y), recovered := true }] ∧ ∃ w1, Gr w w1 ∧ w' = w1.setCell ⟨b, 0, none⟩ (.int .i64 3) := by
  have h1 : ∀ x w, (Instr.typeAssert (.iface 258 x) 20 193 true).run Try.prog w = .ok (.tuple #[.iface 258 x, .bool true]) w := fun _ _ => by kernel_rfl
  refine callsD_of_wpS Try.func194 rfl fun c₀ cs hu => ?_
  apply wpS_seq
  apply wpS_region
  simp [wpOpsS, go_sem, recoverD, hu, Try.ntmps194, Exit.thenS, ↓h1, Array.replicate, List.replicate]
  apply wpS_of_wp
  clear hu h1
  have HC := hid hc; clear hc
  go_wp2_with (go_at_call 289; refine (code_great _ _ _).mono ?_; rintro e w1 ⟨rfl, hg⟩; have hb := hg.keep HC.out; have f0 := fz hb; have c0 := cells1 hb; have HG := hid hg; clear hg hb)
  cases c₀
  simp [bodyPostS, results, Try.results194]
  exact ⟨w1, HG.out, rfl⟩
set_option maxRecDepth 20000 in
set_option maxHeartbeats 400000 in
theorem toldS_ok (f : Nat) (cap : Array Value) (a b : Int) (n : Nat) (ys : List (Int × Int)) (w : World) (hen : ∀ w, (callFunc f cap).run Try.prog w = .ok (.enter f cap) w) (hF : ∀ w', Gr w w' → Calls Try.prog f cap w' fun e w'' => ∃ A c, e = .returned (scl a b A n c) ∧ w''.ownsRow w'.heap.size 34 2 (.slice A n c) n (flatL ys) ∧ Gr w' w'') :
    Calls Try.prog 120 #[.func (.func f) #[] cap] w fun e w' => ∃ A c, e = .returned (.tuple #[scl a b A n c, .int .i64 0]) ∧ w'.ownsRow w.heap.size 34 2 (.slice A n c) n (flatL ys) ∧ Gr w w' := by
  have HF := hid hF; clear hF
  go_enter_defers Try.func120, Try.ntmps120
  go_wp2_with fail
  refine (HF.out _ ((Gr.alloc _ _).trans (Gr.alloc _ _))).mono ?_
  rintro e w1 ⟨A, c, rfl, hR, hg⟩
  obtain ⟨x0, x1, hz, G1⟩ := alloc2 hg
  obtain ⟨_, _, _⟩ := cells3 x0
  have _ := cells1 x1
  have _ := fz x0
  have _ := fz x1
  have G1 := hid G1
  have HR := hid (own_base hR (show w.heap.size + 2 ≤ _ by simp))
  clear hg x0 x1 hR
  go_wp2_with fail
  refine leaves_cons (f := 194) (args := #[.pointer (some ⟨w.heap.size + 1, 0, none⟩)]) (by simp) (by simp [go_sem]) ?_
  refine (catch_idle_Z _ _).mono ?_
  rintro e u' w2 ⟨rfl, rfl, rfl⟩
  simp [Leaves, settle, results, Try.results120, go_sem, *]
  refine ⟨A, c, ⟨rfl, rfl⟩, own_base (base' := w.heap.size) (own_low (own_low (own_low (own_low HR.out (by simp) _) (by simp) _) (by simp) _) (by simp) _) (by omega), ?_⟩
  exact ((((G1.out.setCell (by simp) _).setCell (by simp) _).setCell (by simp) _).setCell (by simp) _)
set_option maxRecDepth 20000 in
set_option maxHeartbeats 400000 in
theorem toldS_great (f : Nat) (cap : Array Value) (w : World) (hen : ∀ w, (callFunc f cap).run Try.prog w = .ok (.enter f cap) w) (hF : ∀ w', Gr w w' → Calls Try.prog f cap w' fun e w'' => (∃ p q, e = .panicked [{ v := .iface 258 (fr p q), recovered := false }]) ∧ Gr w' w'') :
    Calls Try.prog 120 #[.func (.func f) #[] cap] w fun e w' => e = .returned (.tuple #[scl 0 0 none 0 0, .int .i64 3]) ∧ Gr w w' := by
  have HF := hid hF; clear hF
  go_enter_defers Try.func120, Try.ntmps120
  go_wp2_with fail
  refine (HF.out _ ((Gr.alloc _ _).trans (Gr.alloc _ _))).mono ?_
  rintro e w1 ⟨⟨p, q, rfl⟩, hg⟩
  obtain ⟨x0, x1, hz, G1⟩ := alloc2 hg
  refine leaves_cons (f := 194) (args := #[.pointer (some ⟨w.heap.size + 1, 0, none⟩)]) (by simp) (by simp [go_sem]) ?_
  refine (catch_great_Z _ _ _ _ _ _ x1).mono ?_
  rintro e u' w2 ⟨rfl, rfl, w3, hg3, rfl⟩
  have x0 := hg3.keep x0
  obtain ⟨_, _, _⟩ := cells3 x0
  have _ := cells1 (hg3.keep x1)
  simp [Leaves, settle, results, Try.results120, go_sem, *]
  exact (G1.trans hg3).setCell (by simp) _
/-! validOr -/
set_option maxRecDepth 20000 in
set_option maxHeartbeats 400000 in
theorem iOr_t (C a b : Int) (A : Option Addr) (c : Nat) (xs : List (Int × Int)) (w : World) (X : Hid (RdF w A xs)) (hn : xs.length ≤ 1048576) (h : sclB a b xs = true) :
    Calls Try.prog 124 #[.int .i64 C, scl a b A xs.length c] w fun e w' => e = .returned (.tuple #[scl a b A xs.length c, .int .i64 0]) ∧ Gr w w' := by
  have h := hid h
  go_enter Try.func124, Try.ntmps124
  go_wp2_with fail
  refine (iScT a b A c xs _ (hid (X.out.keep (((Gr.refl w).al _).al _))) hn h.out).mono ?_
  rintro e w1 ⟨rfl, hg1⟩
  obtain ⟨x1_0, x1_1, hz1, g1⟩ := alloc2 hg1
  obtain ⟨_, _, _⟩ := cells3 x1_0
  have _ := fz x1_0
  have _ := ltb x1_0
  obtain ⟨_, _, _⟩ := cells3 x1_1
  have _ := fz x1_1
  have _ := ltb x1_1
  have X1_0 := hid x1_0; clear x1_0
  have X1_1 := hid x1_1; clear x1_1
  have G1 := hid (g1)
  clear hg1 g1
  go_wp2
  refine bodyPost_ret (v := .tuple #[scl a b A xs.length c, .int .i64 0]) (by simp [results, Try.results124, go_sem, *]) rfl ⟨rfl, ?_⟩
  exact (((G1.out).setCell (by simp <;> omega) _).setCell (by simp <;> omega) _).setCell (by simp <;> omega) _
set_option maxRecDepth 20000 in
set_option maxHeartbeats 400000 in
theorem iOr_f (C a b : Int) (A : Option Addr) (c : Nat) (xs : List (Int × Int)) (w : World) (X : Hid (RdF w A xs)) (hn : xs.length ≤ 1048576) (h : sclB a b xs = false) :
    Calls Try.prog 124 #[.int .i64 C, scl a b A xs.length c] w fun e w' => e = .returned (.tuple #[scl 0 0 none 0 0, .int .i64 C]) ∧ Gr w w' := by
  have h := hid h
  go_enter Try.func124, Try.ntmps124
  go_wp2_with fail
  refine (iScF a b A c xs _ (hid (X.out.keep (((Gr.refl w).al _).al _))) hn h.out).mono ?_
  rintro e w1 ⟨rfl, hg1⟩
  obtain ⟨x1_0, x1_1, hz1, g1⟩ := alloc2 hg1
  obtain ⟨_, _, _⟩ := cells3 x1_0
  have _ := fz x1_0
  have _ := ltb x1_0
  obtain ⟨_, _, _⟩ := cells3 x1_1
  have _ := fz x1_1
  have _ := ltb x1_1
  have X1_0 := hid x1_0; clear x1_0
  have X1_1 := hid x1_1; clear x1_1
  have G1 := hid (g1)
  clear hg1 g1
  go_wp2
  refine bodyPost_ret (v := .tuple #[scl 0 0 none 0 0, .int .i64 C]) (by simp [results, Try.results124, go_sem, *]) rfl ⟨rfl, ?_⟩
  exact (((G1.out).setCell (by simp <;> omega) _).setCell (by simp <;> omega) _).setCell (by simp <;> omega) _
end Go.Proofs.Ytfpcbgfcachlgaa
