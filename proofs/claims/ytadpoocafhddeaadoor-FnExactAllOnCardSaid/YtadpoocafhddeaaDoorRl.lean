/- REFUSALS: what is told of works that hand back a slice of their own. Written by gen_rl.py. -/
import Derived.Test.YtadpoocafhddeaaDoorRx
import Derived.Test.YtadpoocafhddeaaDoorIv
namespace Go.Proofs.YtadpoocafhddeaaDoor
open Go.RowKit Go.Sort

theorem rc_idleL (b : Nat) (w : World) :
    CallsD Tryd.prog 101 #[.pointer (some ⟨b, 0, none⟩)] .returning w fun e u' w' => e = .returned (.tuple #[]) ∧ u' = .returning ∧ w' = w := by
  have h1 : ∀ w, (Instr.typeAssert .nilIface 20 128 true).run Tryd.prog w = .ok (.tuple #[.nilIface, .bool false]) w := fun _ => by kernel_rfl
  refine callsD_of_wpS Tryd.func101 rfl fun c₀ cs hu => ?_
  apply wpS_seq
  apply wpS_region
  simp [wpOpsS, go_sem, recoverD, hu, Tryd.ntmps101, Exit.thenS, ↓h1]
  apply wpS_of_wp
  go_wp2
  cases c₀
  simp_all [bodyPostS, results, Tryd.results101]
set_option maxRecDepth 20000 in
set_option maxHeartbeats 400000 in
theorem rc_toldL (f : Nat) (cap : Array Value) (n : Nat) (vals : List Value) (eb : Nat) (ev : Value) (T : TypeId) (w : World) (hen : ∀ w, (callFunc f cap).run Tryd.prog w = .ok (.enter f cap) w) (heb : eb < w.heap.size) (hF : ∀ w', Gr w w' → Calls Tryd.prog f cap w' fun e w'' => (∃ A c, e = .returned (.slice A n c) ∧ w''.ownsRow w'.heap.size 2 1 (.slice A n c) n vals) ∧ w''.heap[eb]? = some (.cells #[ev] T) ∧ Only eb w' w'') :
    Calls Tryd.prog 87 #[.func (.func f) #[] cap] w fun e w' => (∃ A c, e = .returned (.tuple #[.slice A n c, .int .i64 0]) ∧ w'.ownsRow w.heap.size 2 1 (.slice A n c) n vals) ∧ w'.heap[eb]? = some (.cells #[ev] T) ∧ Only eb w w' := by
  have HF := hid hF; clear hF
  go_enter_defers Tryd.func87, Tryd.ntmps87
  go_wp2_with fail
  refine (HF.out _ (Gr.alloc _ _)).mono ?_
  rintro e w1 ⟨⟨A, c, rfl, hR⟩, he, ho⟩
  have x1 := ho.1 w.heap.size _ (by omega) (alloc1 (Gr.refl _)).1
  have _ := cells1 x1
  have _ := fz x1
  have hlt := ltb x1
  have HO := hid ho; have HE := hid he; have HR := hid hR
  clear x1 ho he hR
  go_wp2_with fail
  refine leaves_cons (f := 101) (args := #[.pointer (some ⟨w.heap.size, 0, none⟩)]) (by simp) (by simp [go_sem]) ?_
  refine (rc_idleL _ _).mono ?_
  rintro e u' w2 ⟨rfl, rfl, rfl⟩
  simp [Leaves, settle, results, Tryd.results87, go_sem, *]
  exact ⟨⟨A, c, ⟨rfl, rfl⟩, own_base (own_low HR.out (show w.heap.size < _ by simp) _) (by simp)⟩, (Below.heap_setCell _ _ _ _ (by show eb ≠ w.heap.size; omega)).trans HE.out, HO.out.own _⟩
set_option maxRecDepth 20000 in
set_option maxHeartbeats 400000 in
theorem rc_runL (g : Nat) (cap : Array Value) (n : Nat) (vals : List Value) (fb eb : Nat) (ev o0 : Value) (Tf : TypeId) (w : World) (hen : ∀ w, (callFunc g cap).run Tryd.prog w = .ok (.enter g cap) w) (hfb : w.heap[fb]? = some (.cells #[.func (.func g) #[] cap] Tf)) (heb : w.heap[eb]? = some (.cells #[o0] 64)) (hG : ∀ w', Gr w w' → Calls Tryd.prog g cap w' fun e w'' => (∃ A c, e = .returned (.tuple #[.slice A n c, ev]) ∧ w''.ownsRow w'.heap.size 2 1 (.slice A n c) n vals) ∧ Gr w' w'') (hev : ev = .nilIface ∨ ∃ r, ev = .iface 66 (.int .i64 r)) :
    Calls Tryd.prog 88 #[.pointer (some ⟨fb, 0, none⟩), .pointer (some ⟨eb, 0, none⟩)] w fun e w' => (∃ A c, e = .returned (.slice A n c) ∧ w'.ownsRow w.heap.size 2 1 (.slice A n c) n vals) ∧ w'.heap[eb]? = some (.cells #[ev] 64) ∧ Only eb w w' := by
  have HG := hid hG; clear hG
  have _ := cells1 hfb
  have HEB := hid heb
  clear hfb heb
  rcases hev with rfl | ⟨r, rfl⟩
  all_goals
    go_enter Tryd.func88, Tryd.ntmps88
    go_wp2_with fail
    refine (HG.out _ (Gr.refl _)).mono ?_
    rintro e w1 ⟨⟨A, c, rfl, hR⟩, hg⟩
    have x1 := hg.keep HEB.out
    have _ := cells1 x1
    have _ := fz x1
    have hlt := ltb x1
    have X1 := hid x1; have G1 := hid hg; have HR := hid hR
    clear x1 hg hR
    go_wp2_with fail
    go_ret
    exact ⟨⟨A, c, rfl, own_low HR.out (ltb HEB.out) _⟩, set1_new X1.out, ⟨fun j o hj ho => (Below.heap_setCell _ _ _ _ hj).trans (G1.out.keep ho), fun W0 h0 hs => (h0.trans G1.out).setCell hs _⟩⟩
set_option maxRecDepth 20000 in
set_option maxHeartbeats 1000000 in
theorem rc_workL (g : Nat) (cap : Array Value) (n : Nat) (vals : List Value) (ev : Value) (C : Int) (w : World) (X : Hid (ErrT w)) (hen : ∀ w, (callFunc g cap).run Tryd.prog w = .ok (.enter g cap) w) (hG : ∀ w', Gr w w' → Calls Tryd.prog g cap w' fun e w'' => (∃ A c, e = .returned (.tuple #[.slice A n c, ev]) ∧ w''.ownsRow w'.heap.size 2 1 (.slice A n c) n vals) ∧ Gr w' w'') (hc : (ev = .nilIface ∧ C = 0) ∨ ev = .iface 66 (.int .i64 C)) :
    Calls Tryd.prog 70 #[.func (.func 62) #[] #[], .func (.func g) #[] cap] w fun e w' => (∃ A c, e = .returned (.tuple #[.slice A n c, .int .i64 C]) ∧ w'.ownsRow w.heap.size 2 1 (.slice A n c) n vals) ∧ Gr w w' := by
  have HG := hid hG; clear hG
  rcases hc with ⟨rfl, rfl⟩ | rfl
  · go_enter Tryd.func70, Tryd.ntmps70
    go_wp2_with fail
    refine (rc_toldL 88 _ n vals (w.heap.size + 1) .nilIface 64 _ (fun _ => by kernel_rfl) (by simp) ?_).mono ?_
    · intro w' hg
      obtain ⟨y0, y1, _, g0⟩ := alloc2 hg
      exact rc_runL g cap n vals w.heap.size (w.heap.size + 1) .nilIface .nilIface _ w' hen y0 y1 (fun w'' h => HG.out _ (g0.trans h)) (.inl rfl)
    · rintro e w1 ⟨⟨A, c, rfl, hR⟩, he, ho⟩
      have G1 := hid (ho.2 w (((Gr.refl w).al _).al _) (by omega))
      have _ := cells1 he
      have HE := hid he; have HR := hid hR
      clear ho he hR
      go_wp2_with (fail)
      go_ret2
      exact ⟨⟨A, c, rfl, own_base HR.out (by simp; omega)⟩, G1.out⟩
  · go_enter Tryd.func70, Tryd.ntmps70
    go_wp2_with fail
    refine (rc_toldL 88 _ n vals (w.heap.size + 1) (.iface 66 (.int .i64 C)) 64 _ (fun _ => by kernel_rfl) (by simp) ?_).mono ?_
    · intro w' hg
      obtain ⟨y0, y1, _, g0⟩ := alloc2 hg
      exact rc_runL g cap n vals w.heap.size (w.heap.size + 1) (.iface 66 (.int .i64 C)) .nilIface _ w' hen y0 y1 (fun w'' h => HG.out _ (g0.trans h)) (.inr ⟨_, rfl⟩)
    · rintro e w1 ⟨⟨A, c, rfl, hR⟩, he, ho⟩
      have G1 := hid (ho.2 w (((Gr.refl w).al _).al _) (by omega))
      have _ := cells1 he
      have HE := hid he; have HR := hid hR
      clear ho he hR
      go_wp2_with (go_at_call 62; refine (iRef_yes C _ (X.out.keep G1.out)).mono ?_; rintro e w2 ⟨rfl, g2⟩; have HR2 := hid (own_gr HR.out g2); have G2 := hid (G1.out.trans g2); clear g2)
      go_ret2
      exact ⟨⟨A, c, rfl, own_base HR2.out (by simp; omega)⟩, G2.out⟩
set_option maxRecDepth 20000 in
set_option maxHeartbeats 1000000 in
theorem rc_ask1noL1 (h : Nat) (p1 : Value) (lb wb : Nat) (Tw : TypeId) (A : Option Addr) (c : Nat) (xs : List Sdv) (w : World) (X : Hid (RdSd w A xs)) (hn : xs.length ≤ 1048576) (hch : ¬ chP xs) (hl : w.heap[lb]? = some (.cells #[.slice A xs.length c] 26)) (hw : w.heap[wb]? = some (.cells #[.func (.func h) #[] #[p1]] Tw)) :
    Calls Tryd.prog 71 #[.pointer (some ⟨lb, 0, none⟩), .pointer (some ⟨wb, 0, none⟩)] w fun e w' => e = .returned (.tuple #[.slice none 0 0, .iface 66 (.int .i64 1)]) ∧ Gr w w' := by
  have HI := hid fun w' (hg : Gr w w') => iIndexOf A c xs w' (hid (X.out.keep hg)) hn false ⟨fun h => (by cases h), fun h => absurd h hch⟩
  have _ := cells1 hl
  have _ := cells1 hw
  clear hch hl hw
  go_enter Tryd.func71, Tryd.ntmps71
  go_wp2_with (go_at_call 64; refine (HI.out _ (Gr.refl w)).mono ?_; rintro x w4 ⟨B, n, c', m, rfl, g4, _⟩; have G4 := hid g4; clear g4)
  go_ret2
  exact ⟨rfl, G4.out.al _⟩
set_option maxRecDepth 20000 in
set_option maxHeartbeats 1000000 in
theorem rc_ask1yesL1 (h : Nat) (p1 : Value) (n : Nat) (vals : List Value) (ev : Value) (lb wb : Nat) (Tw : TypeId) (A : Option Addr) (c : Nat) (xs : List Sdv) (w : World) (X : Hid (RdSd w A xs)) (hn : xs.length ≤ 1048576) (hch : chP xs) (hl : w.heap[lb]? = some (.cells #[.slice A xs.length c] 26)) (hw : w.heap[wb]? = some (.cells #[.func (.func h) #[] #[p1]] Tw))
    (hen : ∀ x w, (callFunc h #[x, p1]).run Tryd.prog w = .ok (.enter h #[x, p1]) w)
    (hW : ∀ (w' : World) (B : Option Addr) (c' : Nat) (m : Option Nat) (s : Nat), Gr w w' → Hid (IdxR w' B xs.length m xs) → Calls Tryd.prog h #[chnV B xs.length c' m s, p1] w' fun e w'' => (∃ A c, e = .returned (.tuple #[.slice A n c, ev]) ∧ w''.ownsRow w'.heap.size 2 1 (.slice A n c) n vals) ∧ Gr w' w'') :
    Calls Tryd.prog 71 #[.pointer (some ⟨lb, 0, none⟩), .pointer (some ⟨wb, 0, none⟩)] w fun e w' => (∃ A c, e = .returned (.tuple #[.slice A n c, ev]) ∧ w'.ownsRow w.heap.size 2 1 (.slice A n c) n vals) ∧ Gr w w' := by
  have HI := hid fun w' (hg : Gr w w') => iIndexOf A c xs w' (hid (X.out.keep hg)) hn true ⟨fun _ => hch, fun _ => rfl⟩
  have hmk : ∀ w : World, (Instr.makeMap 60 none).run Tryd.prog w = .ok (.map (some w.heap.size)) (w.alloc (.map #[] 0)) := fun w => rfl
  have HW := hid hW; have HB := hid hw
  have _ := cells1 hl
  clear hch hl hW hw
  go_enter Tryd.func71, Tryd.ntmps71
  go_wp2_with (go_at_call 64; refine (HI.out _ (Gr.refl w)).mono ?_; rintro x w4 ⟨B, n', c', m, rfl, g4, hx⟩; obtain ⟨rfl, hx2⟩ := hx rfl; have G4 := hid g4; have HX := hid (show IdxR w4 B xs.length m xs from ⟨rfl, hx2⟩); have _ := cells1 (g4.keep HB.out); have _ := ltb (g4.keep HB.out); clear g4 hx hx2)
  refine (HW.out _ _ _ _ _ ((G4.out.al _).al _) (hid (HX.out.keep (((Gr.refl _).al _).al _)))).mono ?_
  rintro e w5 ⟨⟨A', c2, rfl, hR⟩, g5⟩
  have G5 := hid (((G4.out.al _).al _).trans g5); have HR := hid (own_base hR (show w.heap.size ≤ _ by have := G4.out.size; simp; omega)); clear g5 hR
  go_wp2_with fail
  go_ret2
  exact ⟨⟨A', c2, rfl, HR.out⟩, G5.out⟩
set_option maxRecDepth 20000 in
set_option maxHeartbeats 1000000 in
theorem rc_asknoL1 (h : Nat) (p1 : Value) (A : Option Addr) (c : Nat) (xs : List Sdv) (w : World) (X : Hid (RdSd w A xs)) (Y : Hid (ErrT w)) (hn : xs.length ≤ 1048576) (hch : ¬ chP xs) :
    Calls Tryd.prog 47 #[.slice A xs.length c, .func (.func h) #[] #[p1]] w fun e w' => (∃ A c, e = .returned (.tuple #[.slice A 0 c, .int .i64 1]) ∧ w'.ownsRow w.heap.size 2 1 (.slice A 0 c) 0 []) ∧ Gr w w' := by
  go_enter Tryd.func47, Tryd.ntmps47
  go_wp2_with fail
  refine (rc_workL 71 _ 0 [] (.iface 66 (.int .i64 1)) 1 _ (hid (Y.out.keep (((Gr.refl w).al _).al _))) (fun _ => by kernel_rfl) ?_ (.inr rfl)).mono ?_
  · intro w' hg
    obtain ⟨y0, y1, _, g0⟩ := alloc2 hg
    exact (rc_ask1noL1 h p1 _ _ _ A c xs w' (hid (X.out.keep g0)) hn hch y0 y1).mono fun e w2 ⟨he, hg⟩ => ⟨⟨_, _, he, World.ownsRow_nil _ _ _ _⟩, hg⟩
  · rintro e w1 ⟨⟨A', c2, rfl, hR⟩, hg⟩
    have G := hid (alloc2 hg).2.2.2; have HR := hid (own_base hR (show w.heap.size ≤ _ by simp; omega)); clear hg hR
    go_wp2_with fail
    go_ret2
    exact ⟨⟨A', c2, rfl, HR.out⟩, G.out⟩
set_option maxRecDepth 20000 in
set_option maxHeartbeats 1000000 in
theorem rc_askyesL1 (h : Nat) (p1 : Value) (n : Nat) (vals : List Value) (ev : Value) (C : Int) (A : Option Addr) (c : Nat) (xs : List Sdv) (w : World) (X : Hid (RdSd w A xs)) (Y : Hid (ErrT w)) (hn : xs.length ≤ 1048576) (hch : chP xs) (hk : (ev = .nilIface ∧ C = 0) ∨ ev = .iface 66 (.int .i64 C))
    (hen : ∀ x w, (callFunc h #[x, p1]).run Tryd.prog w = .ok (.enter h #[x, p1]) w)
    (hW : ∀ (w' : World) (B : Option Addr) (c' : Nat) (m : Option Nat) (s : Nat), Gr w w' → Hid (IdxR w' B xs.length m xs) → Calls Tryd.prog h #[chnV B xs.length c' m s, p1] w' fun e w'' => (∃ A c, e = .returned (.tuple #[.slice A n c, ev]) ∧ w''.ownsRow w'.heap.size 2 1 (.slice A n c) n vals) ∧ Gr w' w'') :
    Calls Tryd.prog 47 #[.slice A xs.length c, .func (.func h) #[] #[p1]] w fun e w' => (∃ A c, e = .returned (.tuple #[.slice A n c, .int .i64 C]) ∧ w'.ownsRow w.heap.size 2 1 (.slice A n c) n vals) ∧ Gr w w' := by
  have HW := hid hW; clear hW
  go_enter Tryd.func47, Tryd.ntmps47
  go_wp2_with fail
  refine (rc_workL 71 _ n vals ev C _ (hid (Y.out.keep (((Gr.refl w).al _).al _))) (fun _ => by kernel_rfl) ?_ hk).mono ?_
  · intro w' hg
    obtain ⟨y0, y1, _, g0⟩ := alloc2 hg
    exact rc_ask1yesL1 h p1 n vals ev _ _ _ A c xs w' (hid (X.out.keep g0)) hn hch y0 y1 hen (fun w'' B c' m s h hx => HW.out _ _ _ _ _ (g0.trans h) hx)
  · rintro e w1 ⟨⟨A', c2, rfl, hR⟩, hg⟩
    have G := hid (alloc2 hg).2.2.2; have HR := hid (own_base hR (show w.heap.size ≤ _ by simp; omega)); clear hg hR
    go_wp2_with fail
    go_ret2
    exact ⟨⟨A', c2, rfl, HR.out⟩, G.out⟩
set_option maxRecDepth 20000 in
set_option maxHeartbeats 1000000 in
theorem rc_ask1noL2 (h : Nat) (p1 p2 : Value) (lb wb : Nat) (Tw : TypeId) (A : Option Addr) (c : Nat) (xs : List Sdv) (w : World) (X : Hid (RdSd w A xs)) (hn : xs.length ≤ 1048576) (hch : ¬ chP xs) (hl : w.heap[lb]? = some (.cells #[.slice A xs.length c] 26)) (hw : w.heap[wb]? = some (.cells #[.func (.func h) #[] #[p1, p2]] Tw)) :
    Calls Tryd.prog 71 #[.pointer (some ⟨lb, 0, none⟩), .pointer (some ⟨wb, 0, none⟩)] w fun e w' => e = .returned (.tuple #[.slice none 0 0, .iface 66 (.int .i64 1)]) ∧ Gr w w' := by
  have HI := hid fun w' (hg : Gr w w') => iIndexOf A c xs w' (hid (X.out.keep hg)) hn false ⟨fun h => (by cases h), fun h => absurd h hch⟩
  have _ := cells1 hl
  have _ := cells1 hw
  clear hch hl hw
  go_enter Tryd.func71, Tryd.ntmps71
  go_wp2_with (go_at_call 64; refine (HI.out _ (Gr.refl w)).mono ?_; rintro x w4 ⟨B, n, c', m, rfl, g4, _⟩; have G4 := hid g4; clear g4)
  go_ret2
  exact ⟨rfl, G4.out.al _⟩
set_option maxRecDepth 20000 in
set_option maxHeartbeats 1000000 in
theorem rc_ask1yesL2 (h : Nat) (p1 p2 : Value) (n : Nat) (vals : List Value) (ev : Value) (lb wb : Nat) (Tw : TypeId) (A : Option Addr) (c : Nat) (xs : List Sdv) (w : World) (X : Hid (RdSd w A xs)) (hn : xs.length ≤ 1048576) (hch : chP xs) (hl : w.heap[lb]? = some (.cells #[.slice A xs.length c] 26)) (hw : w.heap[wb]? = some (.cells #[.func (.func h) #[] #[p1, p2]] Tw))
    (hen : ∀ x w, (callFunc h #[x, p1, p2]).run Tryd.prog w = .ok (.enter h #[x, p1, p2]) w)
    (hW : ∀ (w' : World) (B : Option Addr) (c' : Nat) (m : Option Nat) (s : Nat), Gr w w' → Hid (IdxR w' B xs.length m xs) → Calls Tryd.prog h #[chnV B xs.length c' m s, p1, p2] w' fun e w'' => (∃ A c, e = .returned (.tuple #[.slice A n c, ev]) ∧ w''.ownsRow w'.heap.size 2 1 (.slice A n c) n vals) ∧ Gr w' w'') :
    Calls Tryd.prog 71 #[.pointer (some ⟨lb, 0, none⟩), .pointer (some ⟨wb, 0, none⟩)] w fun e w' => (∃ A c, e = .returned (.tuple #[.slice A n c, ev]) ∧ w'.ownsRow w.heap.size 2 1 (.slice A n c) n vals) ∧ Gr w w' := by
  have HI := hid fun w' (hg : Gr w w') => iIndexOf A c xs w' (hid (X.out.keep hg)) hn true ⟨fun _ => hch, fun _ => rfl⟩
  have hmk : ∀ w : World, (Instr.makeMap 60 none).run Tryd.prog w = .ok (.map (some w.heap.size)) (w.alloc (.map #[] 0)) := fun w => rfl
  have HW := hid hW; have HB := hid hw
  have _ := cells1 hl
  clear hch hl hW hw
  go_enter Tryd.func71, Tryd.ntmps71
  go_wp2_with (go_at_call 64; refine (HI.out _ (Gr.refl w)).mono ?_; rintro x w4 ⟨B, n', c', m, rfl, g4, hx⟩; obtain ⟨rfl, hx2⟩ := hx rfl; have G4 := hid g4; have HX := hid (show IdxR w4 B xs.length m xs from ⟨rfl, hx2⟩); have _ := cells1 (g4.keep HB.out); have _ := ltb (g4.keep HB.out); clear g4 hx hx2)
  refine (HW.out _ _ _ _ _ ((G4.out.al _).al _) (hid (HX.out.keep (((Gr.refl _).al _).al _)))).mono ?_
  rintro e w5 ⟨⟨A', c2, rfl, hR⟩, g5⟩
  have G5 := hid (((G4.out.al _).al _).trans g5); have HR := hid (own_base hR (show w.heap.size ≤ _ by have := G4.out.size; simp; omega)); clear g5 hR
  go_wp2_with fail
  go_ret2
  exact ⟨⟨A', c2, rfl, HR.out⟩, G5.out⟩
set_option maxRecDepth 20000 in
set_option maxHeartbeats 1000000 in
theorem rc_asknoL2 (h : Nat) (p1 p2 : Value) (A : Option Addr) (c : Nat) (xs : List Sdv) (w : World) (X : Hid (RdSd w A xs)) (Y : Hid (ErrT w)) (hn : xs.length ≤ 1048576) (hch : ¬ chP xs) :
    Calls Tryd.prog 47 #[.slice A xs.length c, .func (.func h) #[] #[p1, p2]] w fun e w' => (∃ A c, e = .returned (.tuple #[.slice A 0 c, .int .i64 1]) ∧ w'.ownsRow w.heap.size 2 1 (.slice A 0 c) 0 []) ∧ Gr w w' := by
  go_enter Tryd.func47, Tryd.ntmps47
  go_wp2_with fail
  refine (rc_workL 71 _ 0 [] (.iface 66 (.int .i64 1)) 1 _ (hid (Y.out.keep (((Gr.refl w).al _).al _))) (fun _ => by kernel_rfl) ?_ (.inr rfl)).mono ?_
  · intro w' hg
    obtain ⟨y0, y1, _, g0⟩ := alloc2 hg
    exact (rc_ask1noL2 h p1 p2 _ _ _ A c xs w' (hid (X.out.keep g0)) hn hch y0 y1).mono fun e w2 ⟨he, hg⟩ => ⟨⟨_, _, he, World.ownsRow_nil _ _ _ _⟩, hg⟩
  · rintro e w1 ⟨⟨A', c2, rfl, hR⟩, hg⟩
    have G := hid (alloc2 hg).2.2.2; have HR := hid (own_base hR (show w.heap.size ≤ _ by simp; omega)); clear hg hR
    go_wp2_with fail
    go_ret2
    exact ⟨⟨A', c2, rfl, HR.out⟩, G.out⟩
set_option maxRecDepth 20000 in
set_option maxHeartbeats 1000000 in
theorem rc_askyesL2 (h : Nat) (p1 p2 : Value) (n : Nat) (vals : List Value) (ev : Value) (C : Int) (A : Option Addr) (c : Nat) (xs : List Sdv) (w : World) (X : Hid (RdSd w A xs)) (Y : Hid (ErrT w)) (hn : xs.length ≤ 1048576) (hch : chP xs) (hk : (ev = .nilIface ∧ C = 0) ∨ ev = .iface 66 (.int .i64 C))
    (hen : ∀ x w, (callFunc h #[x, p1, p2]).run Tryd.prog w = .ok (.enter h #[x, p1, p2]) w)
    (hW : ∀ (w' : World) (B : Option Addr) (c' : Nat) (m : Option Nat) (s : Nat), Gr w w' → Hid (IdxR w' B xs.length m xs) → Calls Tryd.prog h #[chnV B xs.length c' m s, p1, p2] w' fun e w'' => (∃ A c, e = .returned (.tuple #[.slice A n c, ev]) ∧ w''.ownsRow w'.heap.size 2 1 (.slice A n c) n vals) ∧ Gr w' w'') :
    Calls Tryd.prog 47 #[.slice A xs.length c, .func (.func h) #[] #[p1, p2]] w fun e w' => (∃ A c, e = .returned (.tuple #[.slice A n c, .int .i64 C]) ∧ w'.ownsRow w.heap.size 2 1 (.slice A n c) n vals) ∧ Gr w w' := by
  have HW := hid hW; clear hW
  go_enter Tryd.func47, Tryd.ntmps47
  go_wp2_with fail
  refine (rc_workL 71 _ n vals ev C _ (hid (Y.out.keep (((Gr.refl w).al _).al _))) (fun _ => by kernel_rfl) ?_ hk).mono ?_
  · intro w' hg
    obtain ⟨y0, y1, _, g0⟩ := alloc2 hg
    exact rc_ask1yesL2 h p1 p2 n vals ev _ _ _ A c xs w' (hid (X.out.keep g0)) hn hch y0 y1 hen (fun w'' B c' m s h hx => HW.out _ _ _ _ _ (g0.trans h) hx)
  · rintro e w1 ⟨⟨A', c2, rfl, hR⟩, hg⟩
    have G := hid (alloc2 hg).2.2.2; have HR := hid (own_base hR (show w.heap.size ≤ _ by simp; omega)); clear hg hR
    go_wp2_with fail
    go_ret2
    exact ⟨⟨A', c2, rfl, HR.out⟩, G.out⟩

end Go.Proofs.YtadpoocafhddeaaDoor
