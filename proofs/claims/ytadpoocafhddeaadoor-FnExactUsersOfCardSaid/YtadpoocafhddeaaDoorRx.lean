/- REFUSALS: ask of a chain. -/
import Derived.Test.YtadpoocafhddeaaDoorRa
import Derived.Test.YtadpoocafhddeaaDoorCk
import Derived.Test.YtadpoocafhddeaaDoorCr
import Derived.Test.YtadpoocafhddeaaDoorRows
import Derived.ChangeSame
import Derived.ChangeVars
import Derived.JoinedOf
import Derived.LaidLaws
import Derived.LaidHandle
import Derived.Stop.Joined
import Derived.Test.YtadpoocafhddeaaDoorIv
namespace Go.Proofs.YtadpoocafhddeaaDoor
open Go.RowKit Go.Sort

/-- A chain: an index, and no span calculated yet. -/
abbrev chnV (B : Option Addr) (n c : Nat) (m : Option Nat) (s : Nat) : Value := .agg #[.slice B n c, .map m, .map (some s)]

set_option maxRecDepth 20000 in
set_option maxHeartbeats 1000000 in
theorem rc_ask1noB1 (h : Nat) (p1 : Value) (lb wb : Nat) (Tw : TypeId) (A : Option Addr) (c : Nat) (xs : List Sdv) (w : World) (X : Hid (RdSd w A xs)) (hn : xs.length ≤ 1048576) (hch : ¬ chP xs) (hl : w.heap[lb]? = some (.cells #[.slice A xs.length c] 26)) (hw : w.heap[wb]? = some (.cells #[.func (.func h) #[] #[p1]] Tw)) :
    Calls Tryd.prog 69 #[.pointer (some ⟨lb, 0, none⟩), .pointer (some ⟨wb, 0, none⟩)] w fun e w' => e = .returned (.tuple #[.bool false, .iface 66 (.int .i64 1)]) ∧ Gr w w' := by
  have HI := hid fun w' (hg : Gr w w') => iIndexOf A c xs w' (hid (X.out.keep hg)) hn false ⟨fun h => (by cases h), fun h => absurd h hch⟩
  have _ := cells1 hl
  have _ := cells1 hw
  clear hch hl hw
  go_enter Tryd.func69, Tryd.ntmps69
  go_wp2_with (go_at_call 64; refine (HI.out _ (Gr.refl w)).mono ?_; rintro x w4 ⟨B, n, c', m, rfl, g4, _⟩; have G4 := hid g4; clear g4)
  go_ret2
  exact ⟨rfl, G4.out.al _⟩
set_option maxRecDepth 20000 in
set_option maxHeartbeats 1000000 in
theorem rc_ask1yesB1 (h : Nat) (p1 : Value) (b : Bool) (ev : Value) (lb wb : Nat) (Tw : TypeId) (A : Option Addr) (c : Nat) (xs : List Sdv) (w : World) (X : Hid (RdSd w A xs)) (hn : xs.length ≤ 1048576) (hch : chP xs) (hl : w.heap[lb]? = some (.cells #[.slice A xs.length c] 26)) (hw : w.heap[wb]? = some (.cells #[.func (.func h) #[] #[p1]] Tw))
    (hen : ∀ x w, (callFunc h #[x, p1]).run Tryd.prog w = .ok (.enter h #[x, p1]) w)
    (hW : ∀ (w' : World) (B : Option Addr) (c' : Nat) (m : Option Nat) (s : Nat), Gr w w' → Hid (IdxR w' B xs.length m xs) → Calls Tryd.prog h #[chnV B xs.length c' m s, p1] w' fun e w'' => e = .returned (.tuple #[.bool b, ev]) ∧ Gr w' w'') :
    Calls Tryd.prog 69 #[.pointer (some ⟨lb, 0, none⟩), .pointer (some ⟨wb, 0, none⟩)] w fun e w' => e = .returned (.tuple #[.bool b, ev]) ∧ Gr w w' := by
  have HI := hid fun w' (hg : Gr w w') => iIndexOf A c xs w' (hid (X.out.keep hg)) hn true ⟨fun _ => hch, fun _ => rfl⟩
  have hmk : ∀ w : World, (Instr.makeMap 60 none).run Tryd.prog w = .ok (.map (some w.heap.size)) (w.alloc (.map #[] 0)) := fun w => rfl
  have HW := hid hW; have HB := hid hw
  have _ := cells1 hl
  clear hch hl hW hw
  go_enter Tryd.func69, Tryd.ntmps69
  go_wp2_with (go_at_call 64; refine (HI.out _ (Gr.refl w)).mono ?_; rintro x w4 ⟨B, n, c', m, rfl, g4, hx⟩; obtain ⟨rfl, hx2⟩ := hx rfl; have G4 := hid g4; have HX := hid (show IdxR w4 B xs.length m xs from ⟨rfl, hx2⟩); have _ := cells1 (g4.keep HB.out); have _ := ltb (g4.keep HB.out); clear g4 hx hx2)
  refine (HW.out _ _ _ _ _ ((G4.out.al _).al _) (hid (HX.out.keep (((Gr.refl _).al _).al _)))).mono ?_
  rintro e w5 ⟨rfl, g5⟩
  have G5 := hid (((G4.out.al _).al _).trans g5); clear g5
  go_wp2_with fail
  go_ret2
  exact ⟨rfl, G5.out⟩

set_option maxRecDepth 20000 in
set_option maxHeartbeats 1000000 in
theorem rc_ask1noB2 (h : Nat) (p1 p2 : Value) (lb wb : Nat) (Tw : TypeId) (A : Option Addr) (c : Nat) (xs : List Sdv) (w : World) (X : Hid (RdSd w A xs)) (hn : xs.length ≤ 1048576) (hch : ¬ chP xs) (hl : w.heap[lb]? = some (.cells #[.slice A xs.length c] 26)) (hw : w.heap[wb]? = some (.cells #[.func (.func h) #[] #[p1, p2]] Tw)) :
    Calls Tryd.prog 69 #[.pointer (some ⟨lb, 0, none⟩), .pointer (some ⟨wb, 0, none⟩)] w fun e w' => e = .returned (.tuple #[.bool false, .iface 66 (.int .i64 1)]) ∧ Gr w w' := by
  have HI := hid fun w' (hg : Gr w w') => iIndexOf A c xs w' (hid (X.out.keep hg)) hn false ⟨fun h => (by cases h), fun h => absurd h hch⟩
  have _ := cells1 hl
  have _ := cells1 hw
  clear hch hl hw
  go_enter Tryd.func69, Tryd.ntmps69
  go_wp2_with (go_at_call 64; refine (HI.out _ (Gr.refl w)).mono ?_; rintro x w4 ⟨B, n, c', m, rfl, g4, _⟩; have G4 := hid g4; clear g4)
  go_ret2
  exact ⟨rfl, G4.out.al _⟩
set_option maxRecDepth 20000 in
set_option maxHeartbeats 1000000 in
theorem rc_ask1yesB2 (h : Nat) (p1 p2 : Value) (b : Bool) (ev : Value) (lb wb : Nat) (Tw : TypeId) (A : Option Addr) (c : Nat) (xs : List Sdv) (w : World) (X : Hid (RdSd w A xs)) (hn : xs.length ≤ 1048576) (hch : chP xs) (hl : w.heap[lb]? = some (.cells #[.slice A xs.length c] 26)) (hw : w.heap[wb]? = some (.cells #[.func (.func h) #[] #[p1, p2]] Tw))
    (hen : ∀ x w, (callFunc h #[x, p1, p2]).run Tryd.prog w = .ok (.enter h #[x, p1, p2]) w)
    (hW : ∀ (w' : World) (B : Option Addr) (c' : Nat) (m : Option Nat) (s : Nat), Gr w w' → Hid (IdxR w' B xs.length m xs) → Calls Tryd.prog h #[chnV B xs.length c' m s, p1, p2] w' fun e w'' => e = .returned (.tuple #[.bool b, ev]) ∧ Gr w' w'') :
    Calls Tryd.prog 69 #[.pointer (some ⟨lb, 0, none⟩), .pointer (some ⟨wb, 0, none⟩)] w fun e w' => e = .returned (.tuple #[.bool b, ev]) ∧ Gr w w' := by
  have HI := hid fun w' (hg : Gr w w') => iIndexOf A c xs w' (hid (X.out.keep hg)) hn true ⟨fun _ => hch, fun _ => rfl⟩
  have hmk : ∀ w : World, (Instr.makeMap 60 none).run Tryd.prog w = .ok (.map (some w.heap.size)) (w.alloc (.map #[] 0)) := fun w => rfl
  have HW := hid hW; have HB := hid hw
  have _ := cells1 hl
  clear hch hl hW hw
  go_enter Tryd.func69, Tryd.ntmps69
  go_wp2_with (go_at_call 64; refine (HI.out _ (Gr.refl w)).mono ?_; rintro x w4 ⟨B, n, c', m, rfl, g4, hx⟩; obtain ⟨rfl, hx2⟩ := hx rfl; have G4 := hid g4; have HX := hid (show IdxR w4 B xs.length m xs from ⟨rfl, hx2⟩); have _ := cells1 (g4.keep HB.out); have _ := ltb (g4.keep HB.out); clear g4 hx hx2)
  refine (HW.out _ _ _ _ _ ((G4.out.al _).al _) (hid (HX.out.keep (((Gr.refl _).al _).al _)))).mono ?_
  rintro e w5 ⟨rfl, g5⟩
  have G5 := hid (((G4.out.al _).al _).trans g5); clear g5
  go_wp2_with fail
  go_ret2
  exact ⟨rfl, G5.out⟩

set_option maxRecDepth 20000 in
set_option maxHeartbeats 1000000 in
theorem rc_ask1noI1 (h : Nat) (p1 : Value) (lb wb : Nat) (Tw : TypeId) (A : Option Addr) (c : Nat) (xs : List Sdv) (w : World) (X : Hid (RdSd w A xs)) (hn : xs.length ≤ 1048576) (hch : ¬ chP xs) (hl : w.heap[lb]? = some (.cells #[.slice A xs.length c] 26)) (hw : w.heap[wb]? = some (.cells #[.func (.func h) #[] #[p1]] Tw)) :
    Calls Tryd.prog 63 #[.pointer (some ⟨lb, 0, none⟩), .pointer (some ⟨wb, 0, none⟩)] w fun e w' => e = .returned (.tuple #[.int .i64 0, .iface 66 (.int .i64 1)]) ∧ Gr w w' := by
  have HI := hid fun w' (hg : Gr w w') => iIndexOf A c xs w' (hid (X.out.keep hg)) hn false ⟨fun h => (by cases h), fun h => absurd h hch⟩
  have _ := cells1 hl
  have _ := cells1 hw
  clear hch hl hw
  go_enter Tryd.func63, Tryd.ntmps63
  go_wp2_with (go_at_call 64; refine (HI.out _ (Gr.refl w)).mono ?_; rintro x w4 ⟨B, n, c', m, rfl, g4, _⟩; have G4 := hid g4; clear g4)
  go_ret2
  exact ⟨rfl, G4.out.al _⟩
set_option maxRecDepth 20000 in
set_option maxHeartbeats 1000000 in
theorem rc_ask1yesI1 (h : Nat) (p1 : Value) (b : Int) (ev : Value) (lb wb : Nat) (Tw : TypeId) (A : Option Addr) (c : Nat) (xs : List Sdv) (w : World) (X : Hid (RdSd w A xs)) (hn : xs.length ≤ 1048576) (hch : chP xs) (hl : w.heap[lb]? = some (.cells #[.slice A xs.length c] 26)) (hw : w.heap[wb]? = some (.cells #[.func (.func h) #[] #[p1]] Tw))
    (hen : ∀ x w, (callFunc h #[x, p1]).run Tryd.prog w = .ok (.enter h #[x, p1]) w)
    (hW : ∀ (w' : World) (B : Option Addr) (c' : Nat) (m : Option Nat) (s : Nat), Gr w w' → Hid (IdxR w' B xs.length m xs) → Calls Tryd.prog h #[chnV B xs.length c' m s, p1] w' fun e w'' => e = .returned (.tuple #[.int .i64 b, ev]) ∧ Gr w' w'') :
    Calls Tryd.prog 63 #[.pointer (some ⟨lb, 0, none⟩), .pointer (some ⟨wb, 0, none⟩)] w fun e w' => e = .returned (.tuple #[.int .i64 b, ev]) ∧ Gr w w' := by
  have HI := hid fun w' (hg : Gr w w') => iIndexOf A c xs w' (hid (X.out.keep hg)) hn true ⟨fun _ => hch, fun _ => rfl⟩
  have hmk : ∀ w : World, (Instr.makeMap 60 none).run Tryd.prog w = .ok (.map (some w.heap.size)) (w.alloc (.map #[] 0)) := fun w => rfl
  have HW := hid hW; have HB := hid hw
  have _ := cells1 hl
  clear hch hl hW hw
  go_enter Tryd.func63, Tryd.ntmps63
  go_wp2_with (go_at_call 64; refine (HI.out _ (Gr.refl w)).mono ?_; rintro x w4 ⟨B, n, c', m, rfl, g4, hx⟩; obtain ⟨rfl, hx2⟩ := hx rfl; have G4 := hid g4; have HX := hid (show IdxR w4 B xs.length m xs from ⟨rfl, hx2⟩); have _ := cells1 (g4.keep HB.out); have _ := ltb (g4.keep HB.out); clear g4 hx hx2)
  refine (HW.out _ _ _ _ _ ((G4.out.al _).al _) (hid (HX.out.keep (((Gr.refl _).al _).al _)))).mono ?_
  rintro e w5 ⟨rfl, g5⟩
  have G5 := hid (((G4.out.al _).al _).trans g5); clear g5
  go_wp2_with fail
  go_ret2
  exact ⟨rfl, G5.out⟩

set_option maxRecDepth 20000 in
set_option maxHeartbeats 1000000 in
theorem rc_ask1noI2 (h : Nat) (p1 p2 : Value) (lb wb : Nat) (Tw : TypeId) (A : Option Addr) (c : Nat) (xs : List Sdv) (w : World) (X : Hid (RdSd w A xs)) (hn : xs.length ≤ 1048576) (hch : ¬ chP xs) (hl : w.heap[lb]? = some (.cells #[.slice A xs.length c] 26)) (hw : w.heap[wb]? = some (.cells #[.func (.func h) #[] #[p1, p2]] Tw)) :
    Calls Tryd.prog 63 #[.pointer (some ⟨lb, 0, none⟩), .pointer (some ⟨wb, 0, none⟩)] w fun e w' => e = .returned (.tuple #[.int .i64 0, .iface 66 (.int .i64 1)]) ∧ Gr w w' := by
  have HI := hid fun w' (hg : Gr w w') => iIndexOf A c xs w' (hid (X.out.keep hg)) hn false ⟨fun h => (by cases h), fun h => absurd h hch⟩
  have _ := cells1 hl
  have _ := cells1 hw
  clear hch hl hw
  go_enter Tryd.func63, Tryd.ntmps63
  go_wp2_with (go_at_call 64; refine (HI.out _ (Gr.refl w)).mono ?_; rintro x w4 ⟨B, n, c', m, rfl, g4, _⟩; have G4 := hid g4; clear g4)
  go_ret2
  exact ⟨rfl, G4.out.al _⟩
set_option maxRecDepth 20000 in
set_option maxHeartbeats 1000000 in
theorem rc_ask1yesI2 (h : Nat) (p1 p2 : Value) (b : Int) (ev : Value) (lb wb : Nat) (Tw : TypeId) (A : Option Addr) (c : Nat) (xs : List Sdv) (w : World) (X : Hid (RdSd w A xs)) (hn : xs.length ≤ 1048576) (hch : chP xs) (hl : w.heap[lb]? = some (.cells #[.slice A xs.length c] 26)) (hw : w.heap[wb]? = some (.cells #[.func (.func h) #[] #[p1, p2]] Tw))
    (hen : ∀ x w, (callFunc h #[x, p1, p2]).run Tryd.prog w = .ok (.enter h #[x, p1, p2]) w)
    (hW : ∀ (w' : World) (B : Option Addr) (c' : Nat) (m : Option Nat) (s : Nat), Gr w w' → Hid (IdxR w' B xs.length m xs) → Calls Tryd.prog h #[chnV B xs.length c' m s, p1, p2] w' fun e w'' => e = .returned (.tuple #[.int .i64 b, ev]) ∧ Gr w' w'') :
    Calls Tryd.prog 63 #[.pointer (some ⟨lb, 0, none⟩), .pointer (some ⟨wb, 0, none⟩)] w fun e w' => e = .returned (.tuple #[.int .i64 b, ev]) ∧ Gr w w' := by
  have HI := hid fun w' (hg : Gr w w') => iIndexOf A c xs w' (hid (X.out.keep hg)) hn true ⟨fun _ => hch, fun _ => rfl⟩
  have hmk : ∀ w : World, (Instr.makeMap 60 none).run Tryd.prog w = .ok (.map (some w.heap.size)) (w.alloc (.map #[] 0)) := fun w => rfl
  have HW := hid hW; have HB := hid hw
  have _ := cells1 hl
  clear hch hl hW hw
  go_enter Tryd.func63, Tryd.ntmps63
  go_wp2_with (go_at_call 64; refine (HI.out _ (Gr.refl w)).mono ?_; rintro x w4 ⟨B, n, c', m, rfl, g4, hx⟩; obtain ⟨rfl, hx2⟩ := hx rfl; have G4 := hid g4; have HX := hid (show IdxR w4 B xs.length m xs from ⟨rfl, hx2⟩); have _ := cells1 (g4.keep HB.out); have _ := ltb (g4.keep HB.out); clear g4 hx hx2)
  refine (HW.out _ _ _ _ _ ((G4.out.al _).al _) (hid (HX.out.keep (((Gr.refl _).al _).al _)))).mono ?_
  rintro e w5 ⟨rfl, g5⟩
  have G5 := hid (((G4.out.al _).al _).trans g5); clear g5
  go_wp2_with fail
  go_ret2
  exact ⟨rfl, G5.out⟩
end Go.Proofs.YtadpoocafhddeaaDoor
namespace Go.Proofs.YtadpoocafhddeaaDoor
open Go.RowKit Go.Sort

set_option maxRecDepth 20000 in
set_option maxHeartbeats 1000000 in
theorem rc_asknoB1 (h : Nat) (p1 : Value) (A : Option Addr) (c : Nat) (xs : List Sdv) (w : World) (X : Hid (RdSd w A xs)) (E : Hid (ErrT w)) (hn : xs.length ≤ 1048576) (hch : ¬ chP xs) :
    Calls Tryd.prog 39 #[.slice A xs.length c, .func (.func h) #[] #[p1]] w fun e w' => e = .returned (.tuple #[.bool false, .int .i64 1]) ∧ Gr w w' := by
  go_enter Tryd.func39, Tryd.ntmps39
  go_wp2_with fail
  refine (rc_workB 69 _ false (.iface 66 (.int .i64 1)) 1 _ (hid (E.out.keep (((Gr.refl w).al _).al _))) (fun _ => by kernel_rfl) ?_ (.inr rfl)).mono ?_
  · intro w' hg
    obtain ⟨y0, y1, _, g0⟩ := alloc2 hg
    exact rc_ask1noB1 h p1 _ _ _ A c xs w' (hid (X.out.keep g0)) hn hch y0 y1
  · rintro e w1 ⟨rfl, hg⟩
    have G := hid (alloc2 hg).2.2.2; clear hg
    go_wp2_with fail
    go_ret2
    exact ⟨rfl, G.out⟩
set_option maxRecDepth 20000 in
set_option maxHeartbeats 1000000 in
theorem rc_askyesB1 (h : Nat) (p1 : Value) (b : Bool) (ev : Value) (k : Int) (A : Option Addr) (c : Nat) (xs : List Sdv) (w : World) (X : Hid (RdSd w A xs)) (E : Hid (ErrT w)) (hn : xs.length ≤ 1048576) (hch : chP xs) (hk : (ev = .nilIface ∧ k = 0) ∨ ev = .iface 66 (.int .i64 k))
    (hen : ∀ x w, (callFunc h #[x, p1]).run Tryd.prog w = .ok (.enter h #[x, p1]) w)
    (hW : ∀ (w' : World) (B : Option Addr) (c' : Nat) (m : Option Nat) (s : Nat), Gr w w' → Hid (IdxR w' B xs.length m xs) → Calls Tryd.prog h #[chnV B xs.length c' m s, p1] w' fun e w'' => e = .returned (.tuple #[.bool b, ev]) ∧ Gr w' w'') :
    Calls Tryd.prog 39 #[.slice A xs.length c, .func (.func h) #[] #[p1]] w fun e w' => e = .returned (.tuple #[.bool b, .int .i64 k]) ∧ Gr w w' := by
  have HW := hid hW; clear hW
  go_enter Tryd.func39, Tryd.ntmps39
  go_wp2_with fail
  refine (rc_workB 69 _ b ev k _ (hid (E.out.keep (((Gr.refl w).al _).al _))) (fun _ => by kernel_rfl) ?_ hk).mono ?_
  · intro w' hg
    obtain ⟨y0, y1, _, g0⟩ := alloc2 hg
    exact rc_ask1yesB1 h p1 b ev _ _ _ A c xs w' (hid (X.out.keep g0)) hn hch y0 y1 hen (fun w'' B c' m s h hx => HW.out _ _ _ _ _ (g0.trans h) hx)
  · rintro e w1 ⟨rfl, hg⟩
    have G := hid (alloc2 hg).2.2.2; clear hg
    go_wp2_with fail
    go_ret2
    exact ⟨rfl, G.out⟩

set_option maxRecDepth 20000 in
set_option maxHeartbeats 1000000 in
theorem rc_asknoB2 (h : Nat) (p1 p2 : Value) (A : Option Addr) (c : Nat) (xs : List Sdv) (w : World) (X : Hid (RdSd w A xs)) (E : Hid (ErrT w)) (hn : xs.length ≤ 1048576) (hch : ¬ chP xs) :
    Calls Tryd.prog 39 #[.slice A xs.length c, .func (.func h) #[] #[p1, p2]] w fun e w' => e = .returned (.tuple #[.bool false, .int .i64 1]) ∧ Gr w w' := by
  go_enter Tryd.func39, Tryd.ntmps39
  go_wp2_with fail
  refine (rc_workB 69 _ false (.iface 66 (.int .i64 1)) 1 _ (hid (E.out.keep (((Gr.refl w).al _).al _))) (fun _ => by kernel_rfl) ?_ (.inr rfl)).mono ?_
  · intro w' hg
    obtain ⟨y0, y1, _, g0⟩ := alloc2 hg
    exact rc_ask1noB2 h p1 p2 _ _ _ A c xs w' (hid (X.out.keep g0)) hn hch y0 y1
  · rintro e w1 ⟨rfl, hg⟩
    have G := hid (alloc2 hg).2.2.2; clear hg
    go_wp2_with fail
    go_ret2
    exact ⟨rfl, G.out⟩
set_option maxRecDepth 20000 in
set_option maxHeartbeats 1000000 in
theorem rc_askyesB2 (h : Nat) (p1 p2 : Value) (b : Bool) (ev : Value) (k : Int) (A : Option Addr) (c : Nat) (xs : List Sdv) (w : World) (X : Hid (RdSd w A xs)) (E : Hid (ErrT w)) (hn : xs.length ≤ 1048576) (hch : chP xs) (hk : (ev = .nilIface ∧ k = 0) ∨ ev = .iface 66 (.int .i64 k))
    (hen : ∀ x w, (callFunc h #[x, p1, p2]).run Tryd.prog w = .ok (.enter h #[x, p1, p2]) w)
    (hW : ∀ (w' : World) (B : Option Addr) (c' : Nat) (m : Option Nat) (s : Nat), Gr w w' → Hid (IdxR w' B xs.length m xs) → Calls Tryd.prog h #[chnV B xs.length c' m s, p1, p2] w' fun e w'' => e = .returned (.tuple #[.bool b, ev]) ∧ Gr w' w'') :
    Calls Tryd.prog 39 #[.slice A xs.length c, .func (.func h) #[] #[p1, p2]] w fun e w' => e = .returned (.tuple #[.bool b, .int .i64 k]) ∧ Gr w w' := by
  have HW := hid hW; clear hW
  go_enter Tryd.func39, Tryd.ntmps39
  go_wp2_with fail
  refine (rc_workB 69 _ b ev k _ (hid (E.out.keep (((Gr.refl w).al _).al _))) (fun _ => by kernel_rfl) ?_ hk).mono ?_
  · intro w' hg
    obtain ⟨y0, y1, _, g0⟩ := alloc2 hg
    exact rc_ask1yesB2 h p1 p2 b ev _ _ _ A c xs w' (hid (X.out.keep g0)) hn hch y0 y1 hen (fun w'' B c' m s h hx => HW.out _ _ _ _ _ (g0.trans h) hx)
  · rintro e w1 ⟨rfl, hg⟩
    have G := hid (alloc2 hg).2.2.2; clear hg
    go_wp2_with fail
    go_ret2
    exact ⟨rfl, G.out⟩

set_option maxRecDepth 20000 in
set_option maxHeartbeats 1000000 in
theorem rc_asknoI1 (h : Nat) (p1 : Value) (A : Option Addr) (c : Nat) (xs : List Sdv) (w : World) (X : Hid (RdSd w A xs)) (E : Hid (ErrT w)) (hn : xs.length ≤ 1048576) (hch : ¬ chP xs) :
    Calls Tryd.prog 34 #[.slice A xs.length c, .func (.func h) #[] #[p1]] w fun e w' => e = .returned (.tuple #[.int .i64 0, .int .i64 1]) ∧ Gr w w' := by
  go_enter Tryd.func34, Tryd.ntmps34
  go_wp2_with fail
  refine (rc_workI 63 _ 0 (.iface 66 (.int .i64 1)) 1 _ (hid (E.out.keep (((Gr.refl w).al _).al _))) (fun _ => by kernel_rfl) ?_ (.inr rfl)).mono ?_
  · intro w' hg
    obtain ⟨y0, y1, _, g0⟩ := alloc2 hg
    exact rc_ask1noI1 h p1 _ _ _ A c xs w' (hid (X.out.keep g0)) hn hch y0 y1
  · rintro e w1 ⟨rfl, hg⟩
    have G := hid (alloc2 hg).2.2.2; clear hg
    go_wp2_with fail
    go_ret2
    exact ⟨rfl, G.out⟩
set_option maxRecDepth 20000 in
set_option maxHeartbeats 1000000 in
theorem rc_askyesI1 (h : Nat) (p1 : Value) (b : Int) (ev : Value) (k : Int) (A : Option Addr) (c : Nat) (xs : List Sdv) (w : World) (X : Hid (RdSd w A xs)) (E : Hid (ErrT w)) (hn : xs.length ≤ 1048576) (hch : chP xs) (hk : (ev = .nilIface ∧ k = 0) ∨ ev = .iface 66 (.int .i64 k))
    (hen : ∀ x w, (callFunc h #[x, p1]).run Tryd.prog w = .ok (.enter h #[x, p1]) w)
    (hW : ∀ (w' : World) (B : Option Addr) (c' : Nat) (m : Option Nat) (s : Nat), Gr w w' → Hid (IdxR w' B xs.length m xs) → Calls Tryd.prog h #[chnV B xs.length c' m s, p1] w' fun e w'' => e = .returned (.tuple #[.int .i64 b, ev]) ∧ Gr w' w'') :
    Calls Tryd.prog 34 #[.slice A xs.length c, .func (.func h) #[] #[p1]] w fun e w' => e = .returned (.tuple #[.int .i64 b, .int .i64 k]) ∧ Gr w w' := by
  have HW := hid hW; clear hW
  go_enter Tryd.func34, Tryd.ntmps34
  go_wp2_with fail
  refine (rc_workI 63 _ b ev k _ (hid (E.out.keep (((Gr.refl w).al _).al _))) (fun _ => by kernel_rfl) ?_ hk).mono ?_
  · intro w' hg
    obtain ⟨y0, y1, _, g0⟩ := alloc2 hg
    exact rc_ask1yesI1 h p1 b ev _ _ _ A c xs w' (hid (X.out.keep g0)) hn hch y0 y1 hen (fun w'' B c' m s h hx => HW.out _ _ _ _ _ (g0.trans h) hx)
  · rintro e w1 ⟨rfl, hg⟩
    have G := hid (alloc2 hg).2.2.2; clear hg
    go_wp2_with fail
    go_ret2
    exact ⟨rfl, G.out⟩

set_option maxRecDepth 20000 in
set_option maxHeartbeats 1000000 in
theorem rc_asknoI2 (h : Nat) (p1 p2 : Value) (A : Option Addr) (c : Nat) (xs : List Sdv) (w : World) (X : Hid (RdSd w A xs)) (E : Hid (ErrT w)) (hn : xs.length ≤ 1048576) (hch : ¬ chP xs) :
    Calls Tryd.prog 34 #[.slice A xs.length c, .func (.func h) #[] #[p1, p2]] w fun e w' => e = .returned (.tuple #[.int .i64 0, .int .i64 1]) ∧ Gr w w' := by
  go_enter Tryd.func34, Tryd.ntmps34
  go_wp2_with fail
  refine (rc_workI 63 _ 0 (.iface 66 (.int .i64 1)) 1 _ (hid (E.out.keep (((Gr.refl w).al _).al _))) (fun _ => by kernel_rfl) ?_ (.inr rfl)).mono ?_
  · intro w' hg
    obtain ⟨y0, y1, _, g0⟩ := alloc2 hg
    exact rc_ask1noI2 h p1 p2 _ _ _ A c xs w' (hid (X.out.keep g0)) hn hch y0 y1
  · rintro e w1 ⟨rfl, hg⟩
    have G := hid (alloc2 hg).2.2.2; clear hg
    go_wp2_with fail
    go_ret2
    exact ⟨rfl, G.out⟩
set_option maxRecDepth 20000 in
set_option maxHeartbeats 1000000 in
theorem rc_askyesI2 (h : Nat) (p1 p2 : Value) (b : Int) (ev : Value) (k : Int) (A : Option Addr) (c : Nat) (xs : List Sdv) (w : World) (X : Hid (RdSd w A xs)) (E : Hid (ErrT w)) (hn : xs.length ≤ 1048576) (hch : chP xs) (hk : (ev = .nilIface ∧ k = 0) ∨ ev = .iface 66 (.int .i64 k))
    (hen : ∀ x w, (callFunc h #[x, p1, p2]).run Tryd.prog w = .ok (.enter h #[x, p1, p2]) w)
    (hW : ∀ (w' : World) (B : Option Addr) (c' : Nat) (m : Option Nat) (s : Nat), Gr w w' → Hid (IdxR w' B xs.length m xs) → Calls Tryd.prog h #[chnV B xs.length c' m s, p1, p2] w' fun e w'' => e = .returned (.tuple #[.int .i64 b, ev]) ∧ Gr w' w'') :
    Calls Tryd.prog 34 #[.slice A xs.length c, .func (.func h) #[] #[p1, p2]] w fun e w' => e = .returned (.tuple #[.int .i64 b, .int .i64 k]) ∧ Gr w w' := by
  have HW := hid hW; clear hW
  go_enter Tryd.func34, Tryd.ntmps34
  go_wp2_with fail
  refine (rc_workI 63 _ b ev k _ (hid (E.out.keep (((Gr.refl w).al _).al _))) (fun _ => by kernel_rfl) ?_ hk).mono ?_
  · intro w' hg
    obtain ⟨y0, y1, _, g0⟩ := alloc2 hg
    exact rc_ask1yesI2 h p1 p2 b ev _ _ _ A c xs w' (hid (X.out.keep g0)) hn hch y0 y1 hen (fun w'' B c' m s h hx => HW.out _ _ _ _ _ (g0.trans h) hx)
  · rintro e w1 ⟨rfl, hg⟩
    have G := hid (alloc2 hg).2.2.2; clear hg
    go_wp2_with fail
    go_ret2
    exact ⟨rfl, G.out⟩
end Go.Proofs.YtadpoocafhddeaaDoor
namespace Go.Proofs.YtadpoocafhddeaaDoor
open Go.RowKit Go.Sort

set_option maxRecDepth 20000 in
set_option maxHeartbeats 1000000 in
theorem iIsGood1_no (B : Option Addr) (c' : Nat) (m : Option Nat) (s : Nat) (xs : List Sdv) (i d : Int) (bi bd : Nat) (w : World) (hx : Hid (IdxR w B xs.length m xs)) (hi : w.heap[bi]? = some (.cells #[.int .i64 i] 2)) (hd : w.heap[bd]? = some (.cells #[.int .i64 d] 2)) (h : hasB xs.length i = false) :
    Calls Tryd.prog 40 #[chnV B xs.length c' m s, .pointer (some ⟨bi, 0, none⟩), .pointer (some ⟨bd, 0, none⟩)] w fun e w' => e = .returned (.tuple #[.bool false, .iface 66 (.int .i64 2)]) ∧ Gr w w' := by
  obtain ⟨_, hr, b, rfl, hm⟩ := hx.out
  have H := hid h; have HI := hid hi; have HD := hid hd
  clear h hi hd hr hm
  go_enter Tryd.func40, Tryd.ntmps40
  have _ := cells1 HI.out
  have _ := fz HI.out
  have _ := ltb HI.out
  have _ := cells1 HD.out
  have _ := fz HD.out
  have _ := ltb HD.out
  go_wp2_with fail
  refine (iHas_is B xs.length c' b i false _ H.out).mono ?_
  rintro e w1 ⟨rfl, hg1⟩
  obtain ⟨x1_0, hz1, g1⟩ := alloc1 hg1
  have x1_1 := g1.keep HI.out
  have x1_2 := g1.keep HD.out
  obtain ⟨_, _, _⟩ := cells3 x1_0
  have _ := fz x1_0
  have _ := ltb x1_0
  have _ := cells1 x1_1
  have _ := fz x1_1
  have _ := ltb x1_1
  have _ := cells1 x1_2
  have _ := fz x1_2
  have _ := ltb x1_2
  have X1_0 := hid x1_0; clear x1_0
  have X1_1 := hid x1_1; clear x1_1
  have X1_2 := hid x1_2; clear x1_2
  have G1 := hid (g1)
  clear hg1 g1
  go_wp2
  go_ret2
  exact ⟨rfl, G1.out⟩
set_option maxRecDepth 20000 in
set_option maxHeartbeats 1000000 in
theorem iIsGood1_day (B : Option Addr) (c' : Nat) (m : Option Nat) (s : Nat) (xs : List Sdv) (i d : Int) (bi bd : Nat) (w : World) (hx : Hid (IdxR w B xs.length m xs)) (hi : w.heap[bi]? = some (.cells #[.int .i64 i] 2)) (hd : w.heap[bd]? = some (.cells #[.int .i64 d] 2)) (h : hasB xs.length i = true) (h2 : dayB d = false) :
    Calls Tryd.prog 40 #[chnV B xs.length c' m s, .pointer (some ⟨bi, 0, none⟩), .pointer (some ⟨bd, 0, none⟩)] w fun e w' => e = .returned (.tuple #[.bool false, .iface 66 (.int .i64 2)]) ∧ Gr w w' := by
  obtain ⟨_, hr, b, rfl, hm⟩ := hx.out
  have H := hid h; have H2 := hid h2; have HI := hid hi; have HD := hid hd
  clear h h2 hi hd hr hm
  go_enter Tryd.func40, Tryd.ntmps40
  have _ := cells1 HI.out
  have _ := fz HI.out
  have _ := ltb HI.out
  have _ := cells1 HD.out
  have _ := fz HD.out
  have _ := ltb HD.out
  go_wp2_with fail
  refine (iHas_is B xs.length c' b i true _ H.out).mono ?_
  rintro e w1 ⟨rfl, hg1⟩
  obtain ⟨x1_0, hz1, g1⟩ := alloc1 hg1
  have x1_1 := g1.keep HI.out
  have x1_2 := g1.keep HD.out
  obtain ⟨_, _, _⟩ := cells3 x1_0
  have _ := fz x1_0
  have _ := ltb x1_0
  have _ := cells1 x1_1
  have _ := fz x1_1
  have _ := ltb x1_1
  have _ := cells1 x1_2
  have _ := fz x1_2
  have _ := ltb x1_2
  have X1_0 := hid x1_0; clear x1_0
  have X1_1 := hid x1_1; clear x1_1
  have X1_2 := hid x1_2; clear x1_2
  have G1 := hid (g1)
  clear hg1 g1
  go_wp2_with fail
  refine (iDay_is d false _ H2.out).mono ?_
  rintro e w2 ⟨rfl, hg2⟩
  have x2_1 := hg2.keep X1_0.out
  have x2_2 := hg2.keep X1_1.out
  have x2_3 := hg2.keep X1_2.out
  obtain ⟨_, _, _⟩ := cells3 x2_1
  have _ := fz x2_1
  have _ := ltb x2_1
  have _ := cells1 x2_2
  have _ := fz x2_2
  have _ := ltb x2_2
  have _ := cells1 x2_3
  have _ := fz x2_3
  have _ := ltb x2_3
  have X2_1 := hid x2_1; clear x2_1
  have X2_2 := hid x2_2; clear x2_2
  have X2_3 := hid x2_3; clear x2_3
  have G2 := hid (G1.out.trans hg2)
  clear hg2
  go_wp2
  go_ret2
  exact ⟨rfl, G2.out⟩
set_option maxRecDepth 20000 in
set_option maxHeartbeats 1000000 in
theorem iIsGood1_yes (B : Option Addr) (c' : Nat) (m : Option Nat) (s : Nat) (xs : List Sdv) (k : Nat) (y : Sdv) (d : Int) (r : Bool) (bi bd : Nat) (w : World) (hx : Hid (IdxR w B xs.length m xs)) (hi : w.heap[bi]? = some (.cells #[.int .i64 (k : Int)] 2)) (hd : w.heap[bd]? = some (.cells #[.int .i64 d] 2)) (hy : xs[k]? = some y) (hs : soundB y = true) (h2 : dayB d = true) (hr : goodB y d = r) :
    Calls Tryd.prog 40 #[chnV B xs.length c' m s, .pointer (some ⟨bi, 0, none⟩), .pointer (some ⟨bd, 0, none⟩)] w fun e w' => e = .returned (.tuple #[.bool r, .nilIface]) ∧ Gr w w' := by
  obtain ⟨_, hrd, b, rfl, hm⟩ := hx.out
  have hkl : k < xs.length := (List.getElem?_eq_some_iff.1 hy).1
  have H := hid (has_lt hkl); have H2 := hid h2; have HI := hid hi; have HD := hid hd; have HS := hid hs; have HR := hid hr
  obtain ⟨ad, rfl, cy⟩ := hrd k y hy
  have CY := hid cy
  clear h2 hi hd hrd hm hs hr cy hy
  go_enter Tryd.func40, Tryd.ntmps40
  have _ := cells1 HI.out
  have _ := fz HI.out
  have _ := ltb HI.out
  have _ := cells1 HD.out
  have _ := fz HD.out
  have _ := ltb HD.out
  go_wp2_with fail
  refine (iHas_is (some ad) xs.length c' b (k : Int) true _ H.out).mono ?_
  rintro e w1 ⟨rfl, hg1⟩
  obtain ⟨x1_0, hz1, g1⟩ := alloc1 hg1
  have x1_1 := g1.keep HI.out
  have x1_2 := g1.keep HD.out
  obtain ⟨_, _, _⟩ := cells3 x1_0
  have _ := fz x1_0
  have _ := ltb x1_0
  have _ := cells1 x1_1
  have _ := fz x1_1
  have _ := ltb x1_1
  have _ := cells1 x1_2
  have _ := fz x1_2
  have _ := ltb x1_2
  have X1_0 := hid x1_0; clear x1_0
  have X1_1 := hid x1_1; clear x1_1
  have X1_2 := hid x1_2; clear x1_2
  have G1 := hid (g1)
  clear hg1 g1
  go_wp2_with fail
  refine (iDay_is d true _ H2.out).mono ?_
  rintro e w2 ⟨rfl, hg2⟩
  have x2_1 := hg2.keep X1_0.out
  have x2_2 := hg2.keep X1_1.out
  have x2_3 := hg2.keep X1_2.out
  obtain ⟨_, _, _⟩ := cells3 x2_1
  have _ := fz x2_1
  have _ := ltb x2_1
  have _ := cells1 x2_2
  have _ := fz x2_2
  have _ := ltb x2_2
  have _ := cells1 x2_3
  have _ := fz x2_3
  have _ := ltb x2_3
  have X2_1 := hid x2_1; clear x2_1
  have X2_2 := hid x2_2; clear x2_2
  have X2_3 := hid x2_3; clear x2_3
  have G2 := hid (G1.out.trans hg2)
  clear hg2
  go_wp2_with fail
  have CZ := hid (CY.out.keep G2.out)
  refine wp_reg0 9 (by kernel_rfl) (by kernel_rfl) ?_
  apply Exists.intro
  refine ⟨fun wb hb => ?_, ?_⟩
  · obtain ⟨_, _, _⟩ := hb.at3 X2_1.out
    have _ := hb.at1 X2_2.out
    have _ := hb.at1 X2_3.out
    have _ := hb.atF CZ.out.h0; have _ := hb.atF CZ.out.h1; have _ := hb.atF CZ.out.h2; have _ := hb.atF CZ.out.h3; have _ := hb.atF CZ.out.h4; have _ := hb.atF CZ.out.h5; have _ := hb.atF CZ.out.h6; have _ := hb.atF CZ.out.h7; have _ := hb.atF CZ.out.h8; have _ := hb.atF CZ.out.h9
    simp only [headOps, List.contains, List.elem, reduceIte, Bool.false_eq_true]
    repeat (first | go_big_quiet_step (first | (go_at_call 43; exact Calls.of_gr (iGoodOn_is y d r _ HS.out HR.out))) | quiet_step (fail))
    exact wpQuiet_nil rfl
  intro w3 hg3
  have x3_1 := hg3.keep X2_1.out
  have x3_2 := hg3.keep X2_2.out
  have x3_3 := hg3.keep X2_3.out
  obtain ⟨_, _, _⟩ := cells3 x3_1
  have _ := fz x3_1
  have _ := ltb x3_1
  have _ := cells1 x3_2
  have _ := fz x3_2
  have _ := ltb x3_2
  have _ := cells1 x3_3
  have _ := fz x3_3
  have _ := ltb x3_3
  have X3_1 := hid x3_1; clear x3_1
  have X3_2 := hid x3_2; clear x3_2
  have X3_3 := hid x3_3; clear x3_3
  have G3 := hid (G2.out.trans hg3)
  clear hg3
  go_wp2
  go_ret2
  exact ⟨rfl, G3.out⟩
set_option maxRecDepth 20000 in
set_option maxHeartbeats 1000000 in
theorem iIsGood_0 (A : Option Addr) (c : Nat) (xs : List Sdv) (i d : Int) (w : World) (X : Hid (RdSd w A xs)) (E : Hid (ErrT w)) (hn : xs.length ≤ 1048576) (hch : ¬ chP xs) :
    Calls Tryd.prog 16 #[.slice A xs.length c, .int .i64 i, .int .i64 d] w fun e w' => e = .returned (.tuple #[.bool false, .int .i64 1]) ∧ Gr w w' := by
  go_enter Tryd.func16, Tryd.ntmps16
  go_wp2_with fail
  refine (rc_asknoB2 40 _ _ A c xs _ (hid (X.out.keep (((Gr.refl w).al _).al _))) (hid (E.out.keep (((Gr.refl w).al _).al _))) hn hch).mono ?_
  rintro e w1 ⟨rfl, hg⟩
  have G := hid (alloc2 hg).2.2.2; clear hg
  go_wp2_with fail
  go_ret2
  exact ⟨rfl, G.out⟩
set_option maxRecDepth 20000 in
set_option maxHeartbeats 1000000 in
theorem iIsGood_1 (A : Option Addr) (c : Nat) (xs : List Sdv) (i d : Int) (w : World) (X : Hid (RdSd w A xs)) (E : Hid (ErrT w)) (hn : xs.length ≤ 1048576) (hch : chP xs) (h : hasB xs.length i = false) :
    Calls Tryd.prog 16 #[.slice A xs.length c, .int .i64 i, .int .i64 d] w fun e w' => e = .returned (.tuple #[.bool false, .int .i64 2]) ∧ Gr w w' := by
  go_enter Tryd.func16, Tryd.ntmps16
  go_wp2_with fail
  refine (rc_askyesB2 40 _ _ false (.iface 66 (.int .i64 2)) 2 A c xs _ (hid (X.out.keep (((Gr.refl w).al _).al _))) (hid (E.out.keep (((Gr.refl w).al _).al _))) hn hch (.inr rfl) (fun _ _ => by kernel_rfl) (fun w' B c' m s hg hx => iIsGood1_no B c' m s xs i d _ _ w' hx (alloc2 hg).1 (alloc2 hg).2.1 h)).mono ?_
  rintro e w1 ⟨rfl, hg⟩
  have G := hid (alloc2 hg).2.2.2; clear hg
  go_wp2_with fail
  go_ret2
  exact ⟨rfl, G.out⟩
set_option maxRecDepth 20000 in
set_option maxHeartbeats 1000000 in
theorem iIsGood_2 (A : Option Addr) (c : Nat) (xs : List Sdv) (i d : Int) (w : World) (X : Hid (RdSd w A xs)) (E : Hid (ErrT w)) (hn : xs.length ≤ 1048576) (hch : chP xs) (h : hasB xs.length i = true) (h2 : dayB d = false) :
    Calls Tryd.prog 16 #[.slice A xs.length c, .int .i64 i, .int .i64 d] w fun e w' => e = .returned (.tuple #[.bool false, .int .i64 2]) ∧ Gr w w' := by
  go_enter Tryd.func16, Tryd.ntmps16
  go_wp2_with fail
  refine (rc_askyesB2 40 _ _ false (.iface 66 (.int .i64 2)) 2 A c xs _ (hid (X.out.keep (((Gr.refl w).al _).al _))) (hid (E.out.keep (((Gr.refl w).al _).al _))) hn hch (.inr rfl) (fun _ _ => by kernel_rfl) (fun w' B c' m s hg hx => iIsGood1_day B c' m s xs i d _ _ w' hx (alloc2 hg).1 (alloc2 hg).2.1 h h2)).mono ?_
  rintro e w1 ⟨rfl, hg⟩
  have G := hid (alloc2 hg).2.2.2; clear hg
  go_wp2_with fail
  go_ret2
  exact ⟨rfl, G.out⟩
set_option maxRecDepth 20000 in
set_option maxHeartbeats 1000000 in
theorem iIsGood_3 (A : Option Addr) (c : Nat) (xs : List Sdv) (i d : Int) (w : World) (X : Hid (RdSd w A xs)) (E : Hid (ErrT w)) (hn : xs.length ≤ 1048576) (hch : chP xs) (k : Nat) (y : Sdv) (r : Bool) (hk : i = (k : Int)) (hy : xs[k]? = some y) (hs : soundB y = true) (h2 : dayB d = true) (hr : goodB y d = r) :
    Calls Tryd.prog 16 #[.slice A xs.length c, .int .i64 i, .int .i64 d] w fun e w' => e = .returned (.tuple #[.bool r, .int .i64 0]) ∧ Gr w w' := by
  go_enter Tryd.func16, Tryd.ntmps16
  go_wp2_with fail
  refine (rc_askyesB2 40 _ _ r .nilIface 0 A c xs _ (hid (X.out.keep (((Gr.refl w).al _).al _))) (hid (E.out.keep (((Gr.refl w).al _).al _))) hn hch (.inl ⟨rfl, rfl⟩) (fun _ _ => by kernel_rfl) (fun w' B c' m s hg hx => iIsGood1_yes B c' m s xs k y d r _ _ w' hx (hk ▸ (alloc2 hg).1) (alloc2 hg).2.1 hy hs h2 hr)).mono ?_
  rintro e w1 ⟨rfl, hg⟩
  have G := hid (alloc2 hg).2.2.2; clear hg
  go_wp2_with fail
  go_ret2
  exact ⟨rfl, G.out⟩
end Go.Proofs.YtadpoocafhddeaaDoor
namespace Go.Proofs.YtadpoocafhddeaaDoor
open Go.RowKit Go.Sort

theorem chainOkR (A : Option Addr) (c : Nat) (xs : List Sdv) (r : Bool) (w : World) (X : Hid (RdSd w A xs)) (hc : xs.length ≤ c) (hr : r = true ↔ chP xs) :
    Calls Tryd.prog 32 #[.slice A xs.length c] w fun e w' => e = .returned (.bool r) ∧ Gr w w' := by
  by_cases h : xs.length ≤ 30
  · exact sOk A xs.length c xs r w X rfl h hc hr
  · rw [bFalse hr fun hc => h (ch_len hc)]
    exact sOk_big A xs.length c w (by omega)
theorem chainOkNo (A : Option Addr) (c : Nat) (xs : List Sdv) (w : World) (X : Hid (RdSd w A xs)) (hc : xs.length ≤ c) (h : ¬ chP xs) :
    Calls Tryd.prog 32 #[.slice A xs.length c] w fun e w' => e = .returned (.bool false) ∧ Gr w w' := chainOkR A c xs false w X hc ⟨fun h => (by cases h), fun h' => absurd h' h⟩
theorem chainOkYes (A : Option Addr) (c : Nat) (xs : List Sdv) (w : World) (X : Hid (RdSd w A xs)) (hc : xs.length ≤ c) (h : chP xs) :
    Calls Tryd.prog 32 #[.slice A xs.length c] w fun e w' => e = .returned (.bool true) ∧ Gr w w' := chainOkR A c xs true w X hc ⟨fun _ => h, fun _ => rfl⟩
set_option maxRecDepth 20000 in
set_option maxHeartbeats 1000000 in
theorem chainAt0 (A : Option Addr) (c : Nat) (xs : List Sdv) (i d : Int) (w : World) (X : Hid (RdSd w A xs)) (hc : xs.length ≤ c) (h : ¬ chP xs) :
    Calls Tryd.prog 37 #[.slice A xs.length c, .int .i64 i, .int .i64 d] w fun e w' => e = .returned (.int .i64 1) ∧ Gr w w' := by
  go_enter Tryd.func37, Tryd.ntmps37
  go_wp2_with fail
  refine (chainOkNo A c xs _ X hc h).mono ?_
  rintro e w1 ⟨rfl, hg⟩
  have G := hid hg; clear hg
  go_wp2_with fail
  go_ret
  exact ⟨rfl, G.out⟩
set_option maxRecDepth 20000 in
set_option maxHeartbeats 1000000 in
theorem chainAt1 (A : Option Addr) (c : Nat) (xs : List Sdv) (i d : Int) (w : World) (X : Hid (RdSd w A xs)) (hn : xs.length ≤ 1048576) (hc : xs.length ≤ c) (h : chP xs) (hh : hasB xs.length i = false) :
    Calls Tryd.prog 37 #[.slice A xs.length c, .int .i64 i, .int .i64 d] w fun e w' => e = .returned (.int .i64 2) ∧ Gr w w' := by
  have HH := hid hh; clear hh
  go_enter Tryd.func37, Tryd.ntmps37
  go_wp2_with fail
  refine (chainOkYes A c xs _ X hc h).mono ?_
  rintro e w1 ⟨rfl, hg⟩
  have G := hid hg; clear hg
  go_wp2_with fail
  refine (in_has xs.length i false _ hn HH.out).mono ?_
  rintro e w2 ⟨rfl, hg⟩
  have G2 := hid (G.out.trans hg); clear hg
  go_wp2_with fail
  go_ret
  exact ⟨rfl, G2.out⟩
set_option maxRecDepth 20000 in
set_option maxHeartbeats 1000000 in
theorem chainAt2 (A : Option Addr) (c : Nat) (xs : List Sdv) (i d : Int) (r : Bool) (C : Int) (w : World) (X : Hid (RdSd w A xs)) (hn : xs.length ≤ 1048576) (hc : xs.length ≤ c) (h : chP xs) (hh : hasB xs.length i = true) (hd : dayB d = r) (hC : (r = true ∧ C = 0) ∨ (r = false ∧ C = 2)) :
    Calls Tryd.prog 37 #[.slice A xs.length c, .int .i64 i, .int .i64 d] w fun e w' => e = .returned (.int .i64 C) ∧ Gr w w' := by
  have HH := hid hh; have HD := hid hd; clear hh hd
  go_enter Tryd.func37, Tryd.ntmps37
  go_wp2_with fail
  refine (chainOkYes A c xs _ X hc h).mono ?_
  rintro e w1 ⟨rfl, hg⟩
  have G := hid hg; clear hg
  go_wp2_with fail
  refine (in_has xs.length i true _ hn HH.out).mono ?_
  rintro e w2 ⟨rfl, hg⟩
  have G2 := hid (G.out.trans hg); clear hg
  go_wp2_with fail
  refine (sDay d r _ HD.out).mono ?_
  rintro e w3 ⟨rfl, hg⟩
  have G3 := hid (G2.out.trans hg); clear hg
  rcases hC with ⟨rfl, rfl⟩ | ⟨rfl, rfl⟩
  all_goals
    go_wp2_with fail
    go_ret
    exact ⟨rfl, G3.out⟩
set_option maxRecDepth 20000 in
set_option maxHeartbeats 1000000 in
theorem sIsGood_no (A : Option Addr) (c : Nat) (xs : List Sdv) (i d C : Int) (w : World) (h0 : C = 1 ∨ C = 2) (hS : Calls Tryd.prog 37 #[.slice A xs.length c, .int .i64 i, .int .i64 d] w fun e w' => e = .returned (.int .i64 C) ∧ Gr w w') :
    Calls Tryd.prog 15 #[.slice A xs.length c, .int .i64 i, .int .i64 d] w fun e w' => e = .returned (.tuple #[.bool false, .int .i64 C]) ∧ Gr w w' := by
  have HS := hid hS; clear hS
  go_enter Tryd.func15, Tryd.ntmps15
  go_wp2_with fail
  refine HS.out.mono ?_
  rintro e w1 ⟨rfl, hg⟩
  have G := hid hg; clear hg
  rcases h0 with rfl | rfl
  all_goals
    go_wp2_with fail
    go_ret2
    exact ⟨rfl, G.out⟩
set_option maxRecDepth 20000 in
set_option maxHeartbeats 1000000 in
theorem sIsGood_yes (A : Option Addr) (c : Nat) (xs : List Sdv) (k : Nat) (y : Sdv) (d : Int) (r : Bool) (w : World) (X : Hid (RdSd w A xs)) (hy : xs[k]? = some y) (hs : soundB y = true) (hr : goodB y d = r) (hS : Calls Tryd.prog 37 #[.slice A xs.length c, .int .i64 (k : Int), .int .i64 d] w fun e w' => e = .returned (.int .i64 0) ∧ Gr w w') :
    Calls Tryd.prog 15 #[.slice A xs.length c, .int .i64 (k : Int), .int .i64 d] w fun e w' => e = .returned (.tuple #[.bool r, .int .i64 0]) ∧ Gr w w' := by
  have HS := hid hS; clear hS
  have hkl : k < xs.length := (List.getElem?_eq_some_iff.1 hy).1
  have HSO := hid hs; have HR := hid hr; have HY := hid hy
  clear hs hr hy
  go_enter Tryd.func15, Tryd.ntmps15
  go_wp2_with fail
  refine HS.out.mono ?_
  rintro e w1 ⟨rfl, hg⟩
  obtain ⟨ad, rfl, cy⟩ := (X.out.keep hg) k y HY.out
  have G := hid hg; have CY := hid cy; clear hg cy
  go_wp2_with (go_at_call 38; refine (sGood _ y d r _ CY HSO.out HR.out).mono ?_; rintro e w2 ⟨rfl, hg⟩; have G2 := hid (G.out.trans hg); clear hg)
  go_ret2
  exact ⟨rfl, G2.out⟩
theorem bothIsGood (xs : List Sdv) (i d : Int) (hn : xs.length ≤ 1048576) : ∃ (R : Bool) (C : Int),
    (∀ (A : Option Addr) (c : Nat) (w : World), xs.length ≤ c → Hid (RdSd w A xs) → Calls Tryd.prog 15 #[.slice A xs.length c, .int .i64 i, .int .i64 d] w fun e w' => e = .returned (.tuple #[.bool R, .int .i64 C]) ∧ Gr w w') ∧
    (∀ (A : Option Addr) (c : Nat) (w : World), xs.length ≤ c → Hid (RdSd w A xs) → Hid (ErrT w) → Calls Tryd.prog 16 #[.slice A xs.length c, .int .i64 i, .int .i64 d] w fun e w' => e = .returned (.tuple #[.bool R, .int .i64 C]) ∧ Gr w w') := by
  by_cases hch : chP xs
  · cases hh : hasB xs.length i with
    | false => exact ⟨false, 2, fun A c w hc X => sIsGood_no A c xs i d 2 w (.inr rfl) (chainAt1 A c xs i d w X hn hc hch hh), fun A c w _ X E => iIsGood_1 A c xs i d w X E hn hch hh⟩
    | true =>
      cases hd : dayB d with
      | false => exact ⟨false, 2, fun A c w hc X => sIsGood_no A c xs i d 2 w (.inr rfl) (chainAt2 A c xs i d false 2 w X hn hc hch hh hd (.inr ⟨rfl, rfl⟩)), fun A c w _ X E => iIsGood_2 A c xs i d w X E hn hch hh hd⟩
      | true =>
        have h8 := hh
        unfold hasB at h8
        simp only [Bool.and_eq_true, decide_eq_true_eq] at h8
        obtain ⟨k, rfl⟩ : ∃ k : Nat, i = (k : Int) := ⟨i.toNat, by omega⟩
        have hlt : k < xs.length := by omega
        have hy : xs[k]? = some xs[k] := List.getElem?_eq_getElem _
        have hs : soundB xs[k] = true := (hch k _ hy).2.1
        exact ⟨goodB xs[k] d, 0, fun A c w hc X => sIsGood_yes A c xs k xs[k] d _ w X hy hs rfl (chainAt2 A c xs k d true 0 w X hn hc hch hh hd (.inl ⟨rfl, rfl⟩)), fun A c w _ X E => iIsGood_3 A c xs k d w X E hn hch k xs[k] _ rfl hy hs hd rfl⟩
  · exact ⟨false, 1, fun A c w hc X => sIsGood_no A c xs i d 1 w (.inl rfl) (chainAt0 A c xs i d w X hc hch), fun A c w _ X E => iIsGood_0 A c xs i d w X E hn hch⟩
end Go.Proofs.YtadpoocafhddeaaDoor
namespace Go.Proofs.YtadpoocafhddeaaDoor
open Go.ChangeShapes Go.WideShapes Go.RowKit

theorem et_at : Tryd.prog.globalNamed "errors.errorType" = some 0 := by kernel_rfl
theorem et_rt : (Tryd.prog.cutTypes.find? (·.1 == "internal/reflectlite.rtype")).map (·.2) = some 144 := by kernel_rfl
theorem et_one : ((List.range (296 - 100)).filter fun t => Tryd.prog.rowNamed t [101, 114, 114, 111, 114]) = [64] := by kernel_rfl
theorem et_size : Tryd.prog.types.size = 296 - 100 := by kernel_rfl
theorem errT_of_laid {W : World} (h : laidMetH Tryd.prog [("errors.errorType", Rows.laid_errors_errorType)] W) : ErrT W := by
  obtain ⟨name, u, ty, e1, e2, e3, e4, e5⟩ := h.2 _ (List.mem_singleton.2 rfl)
  have en : name = [101, 114, 114, 111, 114] := (Option.some.inj e1).symm
  subst en
  obtain rfl := Option.some.inj (et_rt.symm.trans e2)
  have hm : ty ∈ (List.range (296 - 100)).filter fun t => Tryd.prog.rowNamed t [101, 114, 114, 111, 114] := List.mem_filter.2 ⟨List.mem_range.2 (by rw [← et_size]; exact e3), e4⟩
  rw [et_one] at hm
  obtain rfl := List.mem_singleton.1 hm
  have hh : typeHandle Tryd.prog 64 = .pointer (some ⟨1, 64, none⟩) := by kernel_rfl
  rw [hh] at e5
  unfold ErrT
  simpa using World.var?_cell et_at e5 0
end Go.Proofs.YtadpoocafhddeaaDoor
namespace Go.Proofs.YtadpoocafhddeaaDoor
open Go.RowKit Go.Sort

theorem rc_idleL (b : Nat) (w : World) :
    CallsD Tryd.prog 101 #[.pointer (some ⟨b, 0, none⟩)] .returning w fun e u' w' => e = .returned (.tuple #[]) ∧ u' = .returning ∧ w' = w := by
  have h1 : ∀ w, (Instr.typeAssert .nilIface 20 128 true).run Tryd.prog w = .ok (.tuple #[.nilIface, .bool false]) w := fun _ => by kernel_rfl
  refine callsD_of_wpS Tryd.func101 rfl fun c₀ cs hu => ?_
  apply wpS_seq
  apply wpS_region
  simp [wpOpsS, go_sem, recoverD, hu, Tryd.ntmps101, Exit.thenS, ↓h1]
  apply wpS_of_wp
  go_wp2
  cases c₀
  simp_all [bodyPostS, results, Tryd.results101]
set_option maxRecDepth 20000 in
set_option maxHeartbeats 400000 in
theorem rc_toldL (f : Nat) (cap : Array Value) (n : Nat) (vals : List Value) (eb : Nat) (ev : Value) (T : TypeId) (w : World) (hen : ∀ w, (callFunc f cap).run Tryd.prog w = .ok (.enter f cap) w) (heb : eb < w.heap.size) (hF : ∀ w', Gr w w' → Calls Tryd.prog f cap w' fun e w'' => (∃ A c, e = .returned (.slice A n c) ∧ w''.ownsRow w'.heap.size 2 1 (.slice A n c) n vals) ∧ w''.heap[eb]? = some (.cells #[ev] T) ∧ Only eb w' w'') :
    Calls Tryd.prog 87 #[.func (.func f) #[] cap] w fun e w' => (∃ A c, e = .returned (.tuple #[.slice A n c, .int .i64 0]) ∧ w'.ownsRow w.heap.size 2 1 (.slice A n c) n vals) ∧ w'.heap[eb]? = some (.cells #[ev] T) ∧ Only eb w w' := by
  have HF := hid hF; clear hF
  go_enter_defers Tryd.func87, Tryd.ntmps87
  go_wp2_with fail
  refine (HF.out _ (Gr.alloc _ _)).mono ?_
  rintro e w1 ⟨⟨A, c, rfl, hR⟩, he, ho⟩
  have x1 := ho.1 w.heap.size _ (by omega) (alloc1 (Gr.refl _)).1
  have _ := cells1 x1
  have _ := fz x1
  have hlt := ltb x1
  have HO := hid ho; have HE := hid he; have HR := hid hR
  clear x1 ho he hR
  go_wp2_with fail
  refine leaves_cons (f := 101) (args := #[.pointer (some ⟨w.heap.size, 0, none⟩)]) (by simp) (by simp [go_sem]) ?_
  refine (rc_idleL _ _).mono ?_
  rintro e u' w2 ⟨rfl, rfl, rfl⟩
  simp [Leaves, settle, results, Tryd.results87, go_sem, *]
  exact ⟨⟨A, c, ⟨rfl, rfl⟩, own_base (own_low HR.out (show w.heap.size < _ by simp) _) (by simp)⟩, (Below.heap_setCell _ _ _ _ (by show eb ≠ w.heap.size; omega)).trans HE.out, HO.out.own _⟩
set_option maxRecDepth 20000 in
set_option maxHeartbeats 400000 in
theorem rc_runL (g : Nat) (cap : Array Value) (n : Nat) (vals : List Value) (fb eb : Nat) (ev o0 : Value) (Tf : TypeId) (w : World) (hen : ∀ w, (callFunc g cap).run Tryd.prog w = .ok (.enter g cap) w) (hfb : w.heap[fb]? = some (.cells #[.func (.func g) #[] cap] Tf)) (heb : w.heap[eb]? = some (.cells #[o0] 64)) (hG : ∀ w', Gr w w' → Calls Tryd.prog g cap w' fun e w'' => (∃ A c, e = .returned (.tuple #[.slice A n c, ev]) ∧ w''.ownsRow w'.heap.size 2 1 (.slice A n c) n vals) ∧ Gr w' w'') (hev : ev = .nilIface ∨ ∃ r, ev = .iface 66 (.int .i64 r)) :
    Calls Tryd.prog 88 #[.pointer (some ⟨fb, 0, none⟩), .pointer (some ⟨eb, 0, none⟩)] w fun e w' => (∃ A c, e = .returned (.slice A n c) ∧ w'.ownsRow w.heap.size 2 1 (.slice A n c) n vals) ∧ w'.heap[eb]? = some (.cells #[ev] 64) ∧ Only eb w w' := by
  have HG := hid hG; clear hG
  have _ := cells1 hfb
  have HEB := hid heb
  clear hfb heb
  rcases hev with rfl | ⟨r, rfl⟩
  all_goals
    go_enter Tryd.func88, Tryd.ntmps88
    go_wp2_with fail
    refine (HG.out _ (Gr.refl _)).mono ?_
    rintro e w1 ⟨⟨A, c, rfl, hR⟩, hg⟩
    have x1 := hg.keep HEB.out
    have _ := cells1 x1
    have _ := fz x1
    have hlt := ltb x1
    have X1 := hid x1; have G1 := hid hg; have HR := hid hR
    clear x1 hg hR
    go_wp2_with fail
    go_ret
    exact ⟨⟨A, c, rfl, own_low HR.out (ltb HEB.out) _⟩, set1_new X1.out, ⟨fun j o hj ho => (Below.heap_setCell _ _ _ _ hj).trans (G1.out.keep ho), fun W0 h0 hs => (h0.trans G1.out).setCell hs _⟩⟩
set_option maxRecDepth 20000 in
set_option maxHeartbeats 1000000 in
theorem rc_workL (g : Nat) (cap : Array Value) (n : Nat) (vals : List Value) (ev : Value) (C : Int) (w : World) (X : Hid (ErrT w)) (hen : ∀ w, (callFunc g cap).run Tryd.prog w = .ok (.enter g cap) w) (hG : ∀ w', Gr w w' → Calls Tryd.prog g cap w' fun e w'' => (∃ A c, e = .returned (.tuple #[.slice A n c, ev]) ∧ w''.ownsRow w'.heap.size 2 1 (.slice A n c) n vals) ∧ Gr w' w'') (hc : (ev = .nilIface ∧ C = 0) ∨ ev = .iface 66 (.int .i64 C)) :
    Calls Tryd.prog 70 #[.func (.func 62) #[] #[], .func (.func g) #[] cap] w fun e w' => (∃ A c, e = .returned (.tuple #[.slice A n c, .int .i64 C]) ∧ w'.ownsRow w.heap.size 2 1 (.slice A n c) n vals) ∧ Gr w w' := by
  have HG := hid hG; clear hG
  rcases hc with ⟨rfl, rfl⟩ | rfl
  · go_enter Tryd.func70, Tryd.ntmps70
    go_wp2_with fail
    refine (rc_toldL 88 _ n vals (w.heap.size + 1) .nilIface 64 _ (fun _ => by kernel_rfl) (by simp) ?_).mono ?_
    · intro w' hg
      obtain ⟨y0, y1, _, g0⟩ := alloc2 hg
      exact rc_runL g cap n vals w.heap.size (w.heap.size + 1) .nilIface .nilIface _ w' hen y0 y1 (fun w'' h => HG.out _ (g0.trans h)) (.inl rfl)
    · rintro e w1 ⟨⟨A, c, rfl, hR⟩, he, ho⟩
      have G1 := hid (ho.2 w (((Gr.refl w).al _).al _) (by omega))
      have _ := cells1 he
      have HE := hid he; have HR := hid hR
      clear ho he hR
      go_wp2_with (fail)
      go_ret2
      exact ⟨⟨A, c, rfl, own_base HR.out (by simp; omega)⟩, G1.out⟩
  · go_enter Tryd.func70, Tryd.ntmps70
    go_wp2_with fail
    refine (rc_toldL 88 _ n vals (w.heap.size + 1) (.iface 66 (.int .i64 C)) 64 _ (fun _ => by kernel_rfl) (by simp) ?_).mono ?_
    · intro w' hg
      obtain ⟨y0, y1, _, g0⟩ := alloc2 hg
      exact rc_runL g cap n vals w.heap.size (w.heap.size + 1) (.iface 66 (.int .i64 C)) .nilIface _ w' hen y0 y1 (fun w'' h => HG.out _ (g0.trans h)) (.inr ⟨_, rfl⟩)
    · rintro e w1 ⟨⟨A, c, rfl, hR⟩, he, ho⟩
      have G1 := hid (ho.2 w (((Gr.refl w).al _).al _) (by omega))
      have _ := cells1 he
      have HE := hid he; have HR := hid hR
      clear ho he hR
      go_wp2_with (go_at_call 62; refine (iRef_yes C _ (X.out.keep G1.out)).mono ?_; rintro e w2 ⟨rfl, g2⟩; have HR2 := hid (own_gr HR.out g2); have G2 := hid (G1.out.trans g2); clear g2)
      go_ret2
      exact ⟨⟨A, c, rfl, own_base HR2.out (by simp; omega)⟩, G2.out⟩
set_option maxRecDepth 20000 in
set_option maxHeartbeats 1000000 in
theorem rc_ask1noL1 (h : Nat) (p1 : Value) (lb wb : Nat) (Tw : TypeId) (A : Option Addr) (c : Nat) (xs : List Sdv) (w : World) (X : Hid (RdSd w A xs)) (hn : xs.length ≤ 1048576) (hch : ¬ chP xs) (hl : w.heap[lb]? = some (.cells #[.slice A xs.length c] 26)) (hw : w.heap[wb]? = some (.cells #[.func (.func h) #[] #[p1]] Tw)) :
    Calls Tryd.prog 71 #[.pointer (some ⟨lb, 0, none⟩), .pointer (some ⟨wb, 0, none⟩)] w fun e w' => e = .returned (.tuple #[.slice none 0 0, .iface 66 (.int .i64 1)]) ∧ Gr w w' := by
  have HI := hid fun w' (hg : Gr w w') => iIndexOf A c xs w' (hid (X.out.keep hg)) hn false ⟨fun h => (by cases h), fun h => absurd h hch⟩
  have _ := cells1 hl
  have _ := cells1 hw
  clear hch hl hw
  go_enter Tryd.func71, Tryd.ntmps71
  go_wp2_with (go_at_call 64; refine (HI.out _ (Gr.refl w)).mono ?_; rintro x w4 ⟨B, n, c', m, rfl, g4, _⟩; have G4 := hid g4; clear g4)
  go_ret2
  exact ⟨rfl, G4.out.al _⟩
set_option maxRecDepth 20000 in
set_option maxHeartbeats 1000000 in
theorem rc_ask1yesL1 (h : Nat) (p1 : Value) (n : Nat) (vals : List Value) (ev : Value) (lb wb : Nat) (Tw : TypeId) (A : Option Addr) (c : Nat) (xs : List Sdv) (w : World) (X : Hid (RdSd w A xs)) (hn : xs.length ≤ 1048576) (hch : chP xs) (hl : w.heap[lb]? = some (.cells #[.slice A xs.length c] 26)) (hw : w.heap[wb]? = some (.cells #[.func (.func h) #[] #[p1]] Tw))
    (hen : ∀ x w, (callFunc h #[x, p1]).run Tryd.prog w = .ok (.enter h #[x, p1]) w)
    (hW : ∀ (w' : World) (B : Option Addr) (c' : Nat) (m : Option Nat) (s : Nat), Gr w w' → Hid (IdxR w' B xs.length m xs) → Calls Tryd.prog h #[chnV B xs.length c' m s, p1] w' fun e w'' => (∃ A c, e = .returned (.tuple #[.slice A n c, ev]) ∧ w''.ownsRow w'.heap.size 2 1 (.slice A n c) n vals) ∧ Gr w' w'') :
    Calls Tryd.prog 71 #[.pointer (some ⟨lb, 0, none⟩), .pointer (some ⟨wb, 0, none⟩)] w fun e w' => (∃ A c, e = .returned (.tuple #[.slice A n c, ev]) ∧ w'.ownsRow w.heap.size 2 1 (.slice A n c) n vals) ∧ Gr w w' := by
  have HI := hid fun w' (hg : Gr w w') => iIndexOf A c xs w' (hid (X.out.keep hg)) hn true ⟨fun _ => hch, fun _ => rfl⟩
  have hmk : ∀ w : World, (Instr.makeMap 60 none).run Tryd.prog w = .ok (.map (some w.heap.size)) (w.alloc (.map #[] 0)) := fun w => rfl
  have HW := hid hW; have HB := hid hw
  have _ := cells1 hl
  clear hch hl hW hw
  go_enter Tryd.func71, Tryd.ntmps71
  go_wp2_with (go_at_call 64; refine (HI.out _ (Gr.refl w)).mono ?_; rintro x w4 ⟨B, n', c', m, rfl, g4, hx⟩; obtain ⟨rfl, hx2⟩ := hx rfl; have G4 := hid g4; have HX := hid (show IdxR w4 B xs.length m xs from ⟨rfl, hx2⟩); have _ := cells1 (g4.keep HB.out); have _ := ltb (g4.keep HB.out); clear g4 hx hx2)
  refine (HW.out _ _ _ _ _ ((G4.out.al _).al _) (hid (HX.out.keep (((Gr.refl _).al _).al _)))).mono ?_
  rintro e w5 ⟨⟨A', c2, rfl, hR⟩, g5⟩
  have G5 := hid (((G4.out.al _).al _).trans g5); have HR := hid (own_base hR (show w.heap.size ≤ _ by have := G4.out.size; simp; omega)); clear g5 hR
  go_wp2_with fail
  go_ret2
  exact ⟨⟨A', c2, rfl, HR.out⟩, G5.out⟩
set_option maxRecDepth 20000 in
set_option maxHeartbeats 1000000 in
theorem rc_asknoL1 (h : Nat) (p1 : Value) (A : Option Addr) (c : Nat) (xs : List Sdv) (w : World) (X : Hid (RdSd w A xs)) (Y : Hid (ErrT w)) (hn : xs.length ≤ 1048576) (hch : ¬ chP xs) :
    Calls Tryd.prog 47 #[.slice A xs.length c, .func (.func h) #[] #[p1]] w fun e w' => (∃ A c, e = .returned (.tuple #[.slice A 0 c, .int .i64 1]) ∧ w'.ownsRow w.heap.size 2 1 (.slice A 0 c) 0 []) ∧ Gr w w' := by
  go_enter Tryd.func47, Tryd.ntmps47
  go_wp2_with fail
  refine (rc_workL 71 _ 0 [] (.iface 66 (.int .i64 1)) 1 _ (hid (Y.out.keep (((Gr.refl w).al _).al _))) (fun _ => by kernel_rfl) ?_ (.inr rfl)).mono ?_
  · intro w' hg
    obtain ⟨y0, y1, _, g0⟩ := alloc2 hg
    exact (rc_ask1noL1 h p1 _ _ _ A c xs w' (hid (X.out.keep g0)) hn hch y0 y1).mono fun e w2 ⟨he, hg⟩ => ⟨⟨_, _, he, World.ownsRow_nil _ _ _ _⟩, hg⟩
  · rintro e w1 ⟨⟨A', c2, rfl, hR⟩, hg⟩
    have G := hid (alloc2 hg).2.2.2; have HR := hid (own_base hR (show w.heap.size ≤ _ by simp; omega)); clear hg hR
    go_wp2_with fail
    go_ret2
    exact ⟨⟨A', c2, rfl, HR.out⟩, G.out⟩
set_option maxRecDepth 20000 in
set_option maxHeartbeats 1000000 in
theorem rc_askyesL1 (h : Nat) (p1 : Value) (n : Nat) (vals : List Value) (ev : Value) (C : Int) (A : Option Addr) (c : Nat) (xs : List Sdv) (w : World) (X : Hid (RdSd w A xs)) (Y : Hid (ErrT w)) (hn : xs.length ≤ 1048576) (hch : chP xs) (hk : (ev = .nilIface ∧ C = 0) ∨ ev = .iface 66 (.int .i64 C))
    (hen : ∀ x w, (callFunc h #[x, p1]).run Tryd.prog w = .ok (.enter h #[x, p1]) w)
    (hW : ∀ (w' : World) (B : Option Addr) (c' : Nat) (m : Option Nat) (s : Nat), Gr w w' → Hid (IdxR w' B xs.length m xs) → Calls Tryd.prog h #[chnV B xs.length c' m s, p1] w' fun e w'' => (∃ A c, e = .returned (.tuple #[.slice A n c, ev]) ∧ w''.ownsRow w'.heap.size 2 1 (.slice A n c) n vals) ∧ Gr w' w'') :
    Calls Tryd.prog 47 #[.slice A xs.length c, .func (.func h) #[] #[p1]] w fun e w' => (∃ A c, e = .returned (.tuple #[.slice A n c, .int .i64 C]) ∧ w'.ownsRow w.heap.size 2 1 (.slice A n c) n vals) ∧ Gr w w' := by
  have HW := hid hW; clear hW
  go_enter Tryd.func47, Tryd.ntmps47
  go_wp2_with fail
  refine (rc_workL 71 _ n vals ev C _ (hid (Y.out.keep (((Gr.refl w).al _).al _))) (fun _ => by kernel_rfl) ?_ hk).mono ?_
  · intro w' hg
    obtain ⟨y0, y1, _, g0⟩ := alloc2 hg
    exact rc_ask1yesL1 h p1 n vals ev _ _ _ A c xs w' (hid (X.out.keep g0)) hn hch y0 y1 hen (fun w'' B c' m s h hx => HW.out _ _ _ _ _ (g0.trans h) hx)
  · rintro e w1 ⟨⟨A', c2, rfl, hR⟩, hg⟩
    have G := hid (alloc2 hg).2.2.2; have HR := hid (own_base hR (show w.heap.size ≤ _ by simp; omega)); clear hg hR
    go_wp2_with fail
    go_ret2
    exact ⟨⟨A', c2, rfl, HR.out⟩, G.out⟩
set_option maxRecDepth 20000 in
set_option maxHeartbeats 1000000 in
theorem rc_ask1noL2 (h : Nat) (p1 p2 : Value) (lb wb : Nat) (Tw : TypeId) (A : Option Addr) (c : Nat) (xs : List Sdv) (w : World) (X : Hid (RdSd w A xs)) (hn : xs.length ≤ 1048576) (hch : ¬ chP xs) (hl : w.heap[lb]? = some (.cells #[.slice A xs.length c] 26)) (hw : w.heap[wb]? = some (.cells #[.func (.func h) #[] #[p1, p2]] Tw)) :
    Calls Tryd.prog 71 #[.pointer (some ⟨lb, 0, none⟩), .pointer (some ⟨wb, 0, none⟩)] w fun e w' => e = .returned (.tuple #[.slice none 0 0, .iface 66 (.int .i64 1)]) ∧ Gr w w' := by
  have HI := hid fun w' (hg : Gr w w') => iIndexOf A c xs w' (hid (X.out.keep hg)) hn false ⟨fun h => (by cases h), fun h => absurd h hch⟩
  have _ := cells1 hl
  have _ := cells1 hw
  clear hch hl hw
  go_enter Tryd.func71, Tryd.ntmps71
  go_wp2_with (go_at_call 64; refine (HI.out _ (Gr.refl w)).mono ?_; rintro x w4 ⟨B, n, c', m, rfl, g4, _⟩; have G4 := hid g4; clear g4)
  go_ret2
  exact ⟨rfl, G4.out.al _⟩
set_option maxRecDepth 20000 in
set_option maxHeartbeats 1000000 in
theorem rc_ask1yesL2 (h : Nat) (p1 p2 : Value) (n : Nat) (vals : List Value) (ev : Value) (lb wb : Nat) (Tw : TypeId) (A : Option Addr) (c : Nat) (xs : List Sdv) (w : World) (X : Hid (RdSd w A xs)) (hn : xs.length ≤ 1048576) (hch : chP xs) (hl : w.heap[lb]? = some (.cells #[.slice A xs.length c] 26)) (hw : w.heap[wb]? = some (.cells #[.func (.func h) #[] #[p1, p2]] Tw))
    (hen : ∀ x w, (callFunc h #[x, p1, p2]).run Tryd.prog w = .ok (.enter h #[x, p1, p2]) w)
    (hW : ∀ (w' : World) (B : Option Addr) (c' : Nat) (m : Option Nat) (s : Nat), Gr w w' → Hid (IdxR w' B xs.length m xs) → Calls Tryd.prog h #[chnV B xs.length c' m s, p1, p2] w' fun e w'' => (∃ A c, e = .returned (.tuple #[.slice A n c, ev]) ∧ w''.ownsRow w'.heap.size 2 1 (.slice A n c) n vals) ∧ Gr w' w'') :
    Calls Tryd.prog 71 #[.pointer (some ⟨lb, 0, none⟩), .pointer (some ⟨wb, 0, none⟩)] w fun e w' => (∃ A c, e = .returned (.tuple #[.slice A n c, ev]) ∧ w'.ownsRow w.heap.size 2 1 (.slice A n c) n vals) ∧ Gr w w' := by
  have HI := hid fun w' (hg : Gr w w') => iIndexOf A c xs w' (hid (X.out.keep hg)) hn true ⟨fun _ => hch, fun _ => rfl⟩
  have hmk : ∀ w : World, (Instr.makeMap 60 none).run Tryd.prog w = .ok (.map (some w.heap.size)) (w.alloc (.map #[] 0)) := fun w => rfl
  have HW := hid hW; have HB := hid hw
  have _ := cells1 hl
  clear hch hl hW hw
  go_enter Tryd.func71, Tryd.ntmps71
  go_wp2_with (go_at_call 64; refine (HI.out _ (Gr.refl w)).mono ?_; rintro x w4 ⟨B, n', c', m, rfl, g4, hx⟩; obtain ⟨rfl, hx2⟩ := hx rfl; have G4 := hid g4; have HX := hid (show IdxR w4 B xs.length m xs from ⟨rfl, hx2⟩); have _ := cells1 (g4.keep HB.out); have _ := ltb (g4.keep HB.out); clear g4 hx hx2)
  refine (HW.out _ _ _ _ _ ((G4.out.al _).al _) (hid (HX.out.keep (((Gr.refl _).al _).al _)))).mono ?_
  rintro e w5 ⟨⟨A', c2, rfl, hR⟩, g5⟩
  have G5 := hid (((G4.out.al _).al _).trans g5); have HR := hid (own_base hR (show w.heap.size ≤ _ by have := G4.out.size; simp; omega)); clear g5 hR
  go_wp2_with fail
  go_ret2
  exact ⟨⟨A', c2, rfl, HR.out⟩, G5.out⟩
set_option maxRecDepth 20000 in
set_option maxHeartbeats 1000000 in
theorem rc_asknoL2 (h : Nat) (p1 p2 : Value) (A : Option Addr) (c : Nat) (xs : List Sdv) (w : World) (X : Hid (RdSd w A xs)) (Y : Hid (ErrT w)) (hn : xs.length ≤ 1048576) (hch : ¬ chP xs) :
    Calls Tryd.prog 47 #[.slice A xs.length c, .func (.func h) #[] #[p1, p2]] w fun e w' => (∃ A c, e = .returned (.tuple #[.slice A 0 c, .int .i64 1]) ∧ w'.ownsRow w.heap.size 2 1 (.slice A 0 c) 0 []) ∧ Gr w w' := by
  go_enter Tryd.func47, Tryd.ntmps47
  go_wp2_with fail
  refine (rc_workL 71 _ 0 [] (.iface 66 (.int .i64 1)) 1 _ (hid (Y.out.keep (((Gr.refl w).al _).al _))) (fun _ => by kernel_rfl) ?_ (.inr rfl)).mono ?_
  · intro w' hg
    obtain ⟨y0, y1, _, g0⟩ := alloc2 hg
    exact (rc_ask1noL2 h p1 p2 _ _ _ A c xs w' (hid (X.out.keep g0)) hn hch y0 y1).mono fun e w2 ⟨he, hg⟩ => ⟨⟨_, _, he, World.ownsRow_nil _ _ _ _⟩, hg⟩
  · rintro e w1 ⟨⟨A', c2, rfl, hR⟩, hg⟩
    have G := hid (alloc2 hg).2.2.2; have HR := hid (own_base hR (show w.heap.size ≤ _ by simp; omega)); clear hg hR
    go_wp2_with fail
    go_ret2
    exact ⟨⟨A', c2, rfl, HR.out⟩, G.out⟩
set_option maxRecDepth 20000 in
set_option maxHeartbeats 1000000 in
theorem rc_askyesL2 (h : Nat) (p1 p2 : Value) (n : Nat) (vals : List Value) (ev : Value) (C : Int) (A : Option Addr) (c : Nat) (xs : List Sdv) (w : World) (X : Hid (RdSd w A xs)) (Y : Hid (ErrT w)) (hn : xs.length ≤ 1048576) (hch : chP xs) (hk : (ev = .nilIface ∧ C = 0) ∨ ev = .iface 66 (.int .i64 C))
    (hen : ∀ x w, (callFunc h #[x, p1, p2]).run Tryd.prog w = .ok (.enter h #[x, p1, p2]) w)
    (hW : ∀ (w' : World) (B : Option Addr) (c' : Nat) (m : Option Nat) (s : Nat), Gr w w' → Hid (IdxR w' B xs.length m xs) → Calls Tryd.prog h #[chnV B xs.length c' m s, p1, p2] w' fun e w'' => (∃ A c, e = .returned (.tuple #[.slice A n c, ev]) ∧ w''.ownsRow w'.heap.size 2 1 (.slice A n c) n vals) ∧ Gr w' w'') :
    Calls Tryd.prog 47 #[.slice A xs.length c, .func (.func h) #[] #[p1, p2]] w fun e w' => (∃ A c, e = .returned (.tuple #[.slice A n c, .int .i64 C]) ∧ w'.ownsRow w.heap.size 2 1 (.slice A n c) n vals) ∧ Gr w w' := by
  have HW := hid hW; clear hW
  go_enter Tryd.func47, Tryd.ntmps47
  go_wp2_with fail
  refine (rc_workL 71 _ n vals ev C _ (hid (Y.out.keep (((Gr.refl w).al _).al _))) (fun _ => by kernel_rfl) ?_ hk).mono ?_
  · intro w' hg
    obtain ⟨y0, y1, _, g0⟩ := alloc2 hg
    exact rc_ask1yesL2 h p1 p2 n vals ev _ _ _ A c xs w' (hid (X.out.keep g0)) hn hch y0 y1 hen (fun w'' B c' m s h hx => HW.out _ _ _ _ _ (g0.trans h) hx)
  · rintro e w1 ⟨⟨A', c2, rfl, hR⟩, hg⟩
    have G := hid (alloc2 hg).2.2.2; have HR := hid (own_base hR (show w.heap.size ≤ _ by simp; omega)); clear hg hR
    go_wp2_with fail
    go_ret2
    exact ⟨⟨A', c2, rfl, HR.out⟩, G.out⟩

end Go.Proofs.YtadpoocafhddeaaDoor
