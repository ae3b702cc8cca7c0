/- REFUSALS: refusalCode; what is told of a closure that hands back a value and lays an error. Written by gen_rc.py. -/
import Derived.Test.YtadpoocafhddeaaDoorRb
namespace Go.Proofs.YtadpoocafhddeaaDoor
open Go.RowKit Go.Sort

theorem iRef_nil (w : World) : Calls Tryd.prog 62 #[.nilIface] w fun e w' => e = .returned (.int .i64 0) ∧ Gr w w' := by
  go_enter Tryd.func62, Tryd.ntmps62
  go_wp2_with (go_at_call 83; refine (as_nil _ _).mono ?_; rintro e w1 ⟨rfl, rfl⟩)
  go_ret
  exact ⟨rfl, (Gr.refl _).al _⟩
set_option maxRecDepth 20000 in
theorem iRef_yes (r : Int) (w : World) (h : ErrT w) : Calls Tryd.prog 62 #[.iface 66 (.int .i64 r)] w fun e w' => e = .returned (.int .i64 r) ∧ Gr w w' := by
  have HA := hid (as_yes r ⟨w.heap.size, 0, none⟩ (.int .i64 0) (w.alloc (.cells #[.int .i64 0] 66)) (h.keep ((Gr.refl w).al _)) (by simp) (by simp))
  go_enter Tryd.func62, Tryd.ntmps62
  go_wp2_with (go_at_call 83; refine HA.out.mono ?_; rintro e w1 ⟨rfl, w4, g4, rfl⟩; obtain ⟨y4, z4, G4⟩ := alloc1 g4; have Y4 := hid (set1_new (a := .int .i64 r) y4); have G5 := hid (G4.setCell (a := ⟨w.heap.size, 0, none⟩) (by simp) (.int .i64 r)); have _ := cells1 Y4.out; clear g4 y4 z4 G4)
  go_ret
  exact ⟨rfl, G5.out⟩
/-- The block of a call's own variable, behind a call that has changed one elder block. -/
theorem Only.own {eb : Nat} {w w3 : World} {o : Obj} (h : Only eb (w.alloc o) w3) (v : Value) : Only eb w (w3.setCell ⟨w.heap.size, 0, none⟩ v) := by
  refine ⟨fun j o' hj ho => ?_, fun W0 hg hs => ?_⟩
  · have hlt : j < w.heap.size := (Array.getElem?_eq_some_iff.1 ho).1
    rw [Below.heap_setCell _ _ _ _ (by show j ≠ w.heap.size; omega)]
    exact h.1 j o' hj (((Gr.refl w).al o).keep ho)
  · exact (h.2 W0 (hg.al _) hs).setCell (by have := hg.size; simpa using this) _

theorem rc_idleB (b : Nat) (w : World) :
    CallsD Tryd.prog 100 #[.pointer (some ⟨b, 0, none⟩)] .returning w fun e u' w' => e = .returned (.tuple #[]) ∧ u' = .returning ∧ w' = w := by
  have h1 : ∀ w, (Instr.typeAssert .nilIface 20 128 true).run Tryd.prog w = .ok (.tuple #[.nilIface, .bool false]) w := fun _ => by kernel_rfl
  refine callsD_of_wpS Tryd.func100 rfl fun c₀ cs hu => ?_
  apply wpS_seq
  apply wpS_region
  simp [wpOpsS, go_sem, recoverD, hu, Tryd.ntmps100, Exit.thenS, ↓h1]
  apply wpS_of_wp
  go_wp2
  cases c₀
  simp_all [bodyPostS, results, Tryd.results100]
set_option maxRecDepth 20000 in
set_option maxHeartbeats 400000 in
theorem rc_toldB (f : Nat) (cap : Array Value) (b : Bool) (eb : Nat) (ev : Value) (T : TypeId) (w : World) (hen : ∀ w, (callFunc f cap).run Tryd.prog w = .ok (.enter f cap) w) (heb : eb < w.heap.size) (hF : ∀ w', Gr w w' → Calls Tryd.prog f cap w' fun e w'' => e = .returned (.bool b) ∧ w''.heap[eb]? = some (.cells #[ev] T) ∧ Only eb w' w'') :
    Calls Tryd.prog 85 #[.func (.func f) #[] cap] w fun e w' => e = .returned (.tuple #[.bool b, .int .i64 0]) ∧ w'.heap[eb]? = some (.cells #[ev] T) ∧ Only eb w w' := by
  have HF := hid hF; clear hF
  go_enter_defers Tryd.func85, Tryd.ntmps85
  go_wp2_with fail
  refine (HF.out _ (Gr.alloc _ _)).mono ?_
  rintro e w1 ⟨rfl, he, ho⟩
  have x1 := ho.1 w.heap.size _ (by omega) (alloc1 (Gr.refl _)).1
  have _ := cells1 x1
  have _ := fz x1
  have hlt := ltb x1
  have HO := hid ho; have HE := hid he
  clear x1 ho he
  go_wp2_with fail
  refine leaves_cons (f := 100) (args := #[.pointer (some ⟨w.heap.size, 0, none⟩)]) (by simp) (by simp [go_sem]) ?_
  refine (rc_idleB _ _).mono ?_
  rintro e u' w2 ⟨rfl, rfl, rfl⟩
  simp [Leaves, settle, results, Tryd.results85, go_sem, *]
  exact ⟨(Below.heap_setCell _ _ _ _ (by show eb ≠ w.heap.size; omega)).trans HE.out, HO.out.own _⟩
set_option maxRecDepth 20000 in
set_option maxHeartbeats 400000 in
theorem rc_runB (g : Nat) (cap : Array Value) (b : Bool) (fb eb : Nat) (ev o0 : Value) (Tf : TypeId) (w : World) (_hne : fb ≠ eb) (hen : ∀ w, (callFunc g cap).run Tryd.prog w = .ok (.enter g cap) w) (hfb : w.heap[fb]? = some (.cells #[.func (.func g) #[] cap] Tf)) (heb : w.heap[eb]? = some (.cells #[o0] 64)) (hG : ∀ w', Gr w w' → Calls Tryd.prog g cap w' fun e w'' => e = .returned (.tuple #[.bool b, ev]) ∧ Gr w' w'') (hev : ev = .nilIface ∨ ∃ r, ev = .iface 66 (.int .i64 r)) :
    Calls Tryd.prog 86 #[.pointer (some ⟨fb, 0, none⟩), .pointer (some ⟨eb, 0, none⟩)] w fun e w' => e = .returned (.bool b) ∧ w'.heap[eb]? = some (.cells #[ev] 64) ∧ Only eb w w' := by
  have HG := hid hG; clear hG
  have _ := cells1 hfb
  have HEB := hid heb
  clear hfb heb
  rcases hev with rfl | ⟨r, rfl⟩
  · go_enter Tryd.func86, Tryd.ntmps86
    go_wp2_with fail
    refine (HG.out _ (Gr.refl _)).mono ?_
    rintro e w1 ⟨rfl, hg⟩
    have x1 := hg.keep HEB.out
    have _ := cells1 x1
    have _ := fz x1
    have hlt := ltb x1
    have X1 := hid x1; have G1 := hid hg
    clear x1 hg
    go_wp2_with fail
    go_ret
    exact ⟨rfl, set1_new X1.out, ⟨fun j o hj ho => (Below.heap_setCell _ _ _ _ hj).trans (G1.out.keep ho), fun W0 h0 hs => (h0.trans G1.out).setCell hs _⟩⟩
  · go_enter Tryd.func86, Tryd.ntmps86
    go_wp2_with fail
    refine (HG.out _ (Gr.refl _)).mono ?_
    rintro e w1 ⟨rfl, hg⟩
    have x1 := hg.keep HEB.out
    have _ := cells1 x1
    have _ := fz x1
    have hlt := ltb x1
    have X1 := hid x1; have G1 := hid hg
    clear x1 hg
    go_wp2_with fail
    go_ret
    exact ⟨rfl, set1_new X1.out, ⟨fun j o hj ho => (Below.heap_setCell _ _ _ _ hj).trans (G1.out.keep ho), fun W0 h0 hs => (h0.trans G1.out).setCell hs _⟩⟩

theorem rc_idleI (b : Nat) (w : World) :
    CallsD Tryd.prog 94 #[.pointer (some ⟨b, 0, none⟩)] .returning w fun e u' w' => e = .returned (.tuple #[]) ∧ u' = .returning ∧ w' = w := by
  have h1 : ∀ w, (Instr.typeAssert .nilIface 20 128 true).run Tryd.prog w = .ok (.tuple #[.nilIface, .bool false]) w := fun _ => by kernel_rfl
  refine callsD_of_wpS Tryd.func94 rfl fun c₀ cs hu => ?_
  apply wpS_seq
  apply wpS_region
  simp [wpOpsS, go_sem, recoverD, hu, Tryd.ntmps94, Exit.thenS, ↓h1]
  apply wpS_of_wp
  go_wp2
  cases c₀
  simp_all [bodyPostS, results, Tryd.results94]
set_option maxRecDepth 20000 in
set_option maxHeartbeats 400000 in
theorem rc_toldI (f : Nat) (cap : Array Value) (b : Int) (eb : Nat) (ev : Value) (T : TypeId) (w : World) (hen : ∀ w, (callFunc f cap).run Tryd.prog w = .ok (.enter f cap) w) (heb : eb < w.heap.size) (hF : ∀ w', Gr w w' → Calls Tryd.prog f cap w' fun e w'' => e = .returned (.int .i64 b) ∧ w''.heap[eb]? = some (.cells #[ev] T) ∧ Only eb w' w'') :
    Calls Tryd.prog 81 #[.func (.func f) #[] cap] w fun e w' => e = .returned (.tuple #[.int .i64 b, .int .i64 0]) ∧ w'.heap[eb]? = some (.cells #[ev] T) ∧ Only eb w w' := by
  have HF := hid hF; clear hF
  go_enter_defers Tryd.func81, Tryd.ntmps81
  go_wp2_with fail
  refine (HF.out _ (Gr.alloc _ _)).mono ?_
  rintro e w1 ⟨rfl, he, ho⟩
  have x1 := ho.1 w.heap.size _ (by omega) (alloc1 (Gr.refl _)).1
  have _ := cells1 x1
  have _ := fz x1
  have hlt := ltb x1
  have HO := hid ho; have HE := hid he
  clear x1 ho he
  go_wp2_with fail
  refine leaves_cons (f := 94) (args := #[.pointer (some ⟨w.heap.size, 0, none⟩)]) (by simp) (by simp [go_sem]) ?_
  refine (rc_idleI _ _).mono ?_
  rintro e u' w2 ⟨rfl, rfl, rfl⟩
  simp [Leaves, settle, results, Tryd.results81, go_sem, *]
  exact ⟨(Below.heap_setCell _ _ _ _ (by show eb ≠ w.heap.size; omega)).trans HE.out, HO.out.own _⟩
set_option maxRecDepth 20000 in
set_option maxHeartbeats 400000 in
theorem rc_runI (g : Nat) (cap : Array Value) (b : Int) (fb eb : Nat) (ev o0 : Value) (Tf : TypeId) (w : World) (_hne : fb ≠ eb) (hen : ∀ w, (callFunc g cap).run Tryd.prog w = .ok (.enter g cap) w) (hfb : w.heap[fb]? = some (.cells #[.func (.func g) #[] cap] Tf)) (heb : w.heap[eb]? = some (.cells #[o0] 64)) (hG : ∀ w', Gr w w' → Calls Tryd.prog g cap w' fun e w'' => e = .returned (.tuple #[.int .i64 b, ev]) ∧ Gr w' w'') (hev : ev = .nilIface ∨ ∃ r, ev = .iface 66 (.int .i64 r)) :
    Calls Tryd.prog 82 #[.pointer (some ⟨fb, 0, none⟩), .pointer (some ⟨eb, 0, none⟩)] w fun e w' => e = .returned (.int .i64 b) ∧ w'.heap[eb]? = some (.cells #[ev] 64) ∧ Only eb w w' := by
  have HG := hid hG; clear hG
  have _ := cells1 hfb
  have HEB := hid heb
  clear hfb heb
  rcases hev with rfl | ⟨r, rfl⟩
  · go_enter Tryd.func82, Tryd.ntmps82
    go_wp2_with fail
    refine (HG.out _ (Gr.refl _)).mono ?_
    rintro e w1 ⟨rfl, hg⟩
    have x1 := hg.keep HEB.out
    have _ := cells1 x1
    have _ := fz x1
    have hlt := ltb x1
    have X1 := hid x1; have G1 := hid hg
    clear x1 hg
    go_wp2_with fail
    go_ret
    exact ⟨rfl, set1_new X1.out, ⟨fun j o hj ho => (Below.heap_setCell _ _ _ _ hj).trans (G1.out.keep ho), fun W0 h0 hs => (h0.trans G1.out).setCell hs _⟩⟩
  · go_enter Tryd.func82, Tryd.ntmps82
    go_wp2_with fail
    refine (HG.out _ (Gr.refl _)).mono ?_
    rintro e w1 ⟨rfl, hg⟩
    have x1 := hg.keep HEB.out
    have _ := cells1 x1
    have _ := fz x1
    have hlt := ltb x1
    have X1 := hid x1; have G1 := hid hg
    clear x1 hg
    go_wp2_with fail
    go_ret
    exact ⟨rfl, set1_new X1.out, ⟨fun j o hj ho => (Below.heap_setCell _ _ _ _ hj).trans (G1.out.keep ho), fun W0 h0 hs => (h0.trans G1.out).setCell hs _⟩⟩
end Go.Proofs.YtadpoocafhddeaaDoor
