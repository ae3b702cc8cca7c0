/- REFUSALS: errors.As of an error that is a refusal, and refusalCode. -/
import Derived.Test.YtadpoocafhddeaaDoorB0
import Derived.LaidEql
import Derived.Stop.Asserts
import Derived.RowKitTokens
import Derived.Lib.ReflectliteSlice
import Derived.Test.YtadpoocafhddeaaDoorIs
import Derived.WalkKit
namespace Go.Proofs.YtadpoocafhddeaaDoor
open Go.RowKit Go.Extern.Stop Go.Stop Go.Extern

/-! what the model's entries for internal/reflectlite do at the types of refusals -/
theorem ra_unpackP (t : Addr) (w : World) : (ReflectliteValue.unpack (.iface 117 (.pointer (some t)))).run Tryd.prog w
    = .ok (.agg #[.pointer (some ⟨1, 117, none⟩), .pointer (some ⟨w.heap.size, 0, none⟩), .int .u64 150]) (w.alloc (.cells #[.pointer (some t)] 117)) := by kernel_rfl
theorem ra_typeP (a : Addr) (w : World) : (ReflectliteValue.methodAny (ReflectliteValue.valueError "reflectlite.Value.Type" 0) (fun t _ _ _ => ReflectliteType.toType t) #[.agg #[.pointer (some ⟨1, 117, none⟩), .pointer (some a), .int .u64 150]]).run Tryd.prog w
    = .ok (.iface 144 (.agg #[.pointer (some ⟨1, 117, none⟩)])) w := by kernel_rfl
theorem ra_mKind (h : Value) (w : World) : (Go.method 296 144 (.agg #[h]) "Kind").run Tryd.prog w = .ok (128, h) w := by kernel_rfl
theorem ra_kindP (w : World) : ((ReflectliteType.abiMethod fun t => (fun a : Nat => Value.int IntKind.u8 (a : Int)) <$> Rtype.kind t) #[.pointer (some ⟨1, 117, none⟩)]).run Tryd.prog w = .ok (.int .u8 22) w := by kernel_rfl
theorem ra_kindR (w : World) : ((ReflectliteType.abiMethod fun t => (fun a : Nat => Value.int IntKind.u8 (a : Int)) <$> Rtype.kind t) #[.pointer (some ⟨1, 66, none⟩)]).run Tryd.prog w = .ok (.int .u8 6) w := by kernel_rfl
theorem ra_partsP (a : Addr) (w : World) : (ReflectliteValue.parts (.agg #[.pointer (some ⟨1, 117, none⟩), .pointer (some a), .int .u64 150])).run Tryd.prog w = .ok (some (117, a, 150)) w := by kernel_rfl
theorem ra_isNil (a p : Addr) (W : World) (ha : W.cell? a = some (.pointer (some p))) :
    (ReflectliteValue.method (ReflectliteValue.valueError "reflectlite.Value.IsNil" 0) ReflectliteValue.isNil #[.agg #[.pointer (some ⟨1, 117, none⟩), .pointer (some a), .int .u64 150]]).run Tryd.prog W = .ok (.bool false) W := by
  rw [Go.Lib.rl_method]
  simp only [Sem.run_bind, ra_partsP, Result.andThen]
  simp [ReflectliteValue.isNil, loadVar, isAgg, underlying, Tryd.underlying117, ha, Result.andThen]
theorem ra_mElem (h : Value) (w : World) : (Go.method 296 144 (.agg #[h]) "Elem").run Tryd.prog w = .ok (141, .agg #[h]) w := by kernel_rfl
theorem ra_mImpl (h : Value) (w : World) : (Go.method 296 144 (.agg #[h]) "Implements").run Tryd.prog w = .ok (142, .agg #[h]) w := by kernel_rfl
theorem ra_mAssign (h : Value) (w : World) : (Go.method 296 144 (.agg #[h]) "AssignableTo").run Tryd.prog w = .ok (139, .agg #[h]) w := by kernel_rfl
theorem ra_elem (w : World) : (ReflectliteType.method ReflectliteType.elem #[.agg #[.pointer (some ⟨1, 117, none⟩)]]).run Tryd.prog w = .ok (.iface 144 (.agg #[.pointer (some ⟨1, 66, none⟩)])) w := by kernel_rfl
theorem ra_impl (w : World) : (ReflectliteType.relation "Implements" ReflectliteType.implements_ #[.agg #[.pointer (some ⟨1, 66, none⟩)], .iface 144 (.agg #[.pointer (some ⟨1, 64, none⟩)])]).run Tryd.prog w = .ok (.bool true) w := by kernel_rfl
theorem ra_typeOf (v : Value) (w : World) : (ReflectliteType.typeOf #[.iface 66 v]).run Tryd.prog w = .ok (.iface 144 (.agg #[.pointer (some ⟨1, 66, none⟩)])) w := by kernel_rfl
theorem ra_assign (w : World) : (ReflectliteType.relation "AssignableTo" ReflectliteType.assignableTo #[.agg #[.pointer (some ⟨1, 66, none⟩)], .iface 144 (.agg #[.pointer (some ⟨1, 66, none⟩)])]).run Tryd.prog w = .ok (.bool true) w := by kernel_rfl
theorem ra_unpackR (r : Int) (w : World) : (ReflectliteValue.unpack (.iface 66 (.int .i64 r))).run Tryd.prog w
    = .ok (.agg #[.pointer (some ⟨1, 66, none⟩), .pointer (some ⟨w.heap.size, 0, none⟩), .int .u64 134]) (w.alloc (.cells #[.int .i64 r] 66)) := by kernel_rfl
theorem ra_elemOf (w : World) : (Rtype.elem? 117).run Tryd.prog w = .ok (some 66) w := by kernel_rfl
theorem ra_mk (p : Addr) (w : World) : (ReflectliteValue.mk 66 p ReflectliteValue.flagAddr).run Tryd.prog w = .ok (.agg #[.pointer (some ⟨1, 66, none⟩), .pointer (some p), .int .u64 390]) w := by kernel_rfl
theorem ra_elemV (a p : Addr) (W : World) (ha : W.cell? a = some (.pointer (some p))) :
    (ReflectliteValue.method (ReflectliteValue.valueError "reflectlite.Value.Elem" 0) ReflectliteValue.elem #[.agg #[.pointer (some ⟨1, 117, none⟩), .pointer (some a), .int .u64 150]]).run Tryd.prog W
      = .ok (.agg #[.pointer (some ⟨1, 66, none⟩), .pointer (some p), .int .u64 390]) W := by
  rw [Go.Lib.rl_method]
  simp only [Sem.run_bind, ra_partsP, Result.andThen]
  simp [ReflectliteValue.elem, loadVar, isAgg, underlying, Tryd.underlying117, ha, Result.andThen, ra_elemOf, ra_mk]
theorem ra_partsA (a : Addr) (w : World) : (ReflectliteValue.parts (.agg #[.pointer (some ⟨1, 66, none⟩), .pointer (some a), .int .u64 390])).run Tryd.prog w = .ok (some (66, a, 390)) w := by kernel_rfl
theorem ra_partsR (a : Addr) (w : World) : (ReflectliteValue.parts (.agg #[.pointer (some ⟨1, 66, none⟩), .pointer (some a), .int .u64 134])).run Tryd.prog w = .ok (some (66, a, 134)) w := by kernel_rfl
theorem ra_direct (w : World) : (Rtype.directlyAssignable 66 66).run Tryd.prog w = .ok true w := by kernel_rfl
universe u
theorem ra_match (m : Array Value → Sort u) (v x : Value) (h1 : (v x : Value) → m #[v, x]) (h2 : (x : Array Value) → m x) : ReflectliteValue.set.match_3 m #[v, x] h1 h2 = h1 v x := rfl
theorem ra_set (ta b : Addr) (r : Int) (old : Value) (W : World) (hb : W.cell? b = some (.int .i64 r)) (ht : W.cell? ta = some old) (hf : W.frozen? ta = false) :
    (ReflectliteValue.set #[.agg #[.pointer (some ⟨1, 66, none⟩), .pointer (some ta), .int .u64 390], .agg #[.pointer (some ⟨1, 66, none⟩), .pointer (some b), .int .u64 134]]).run Tryd.prog W
      = .ok (.tuple #[]) (W.setCell ta (.int .i64 r)) := by
  delta ReflectliteValue.set
  rw [ra_match]
  simp only [Sem.run_bind, ra_partsA, ra_partsR, Result.andThen]
  simp [ReflectliteValue.flagAddr, loadVar, isAgg, underlying, Tryd.underlying66, hb, Result.andThen, ra_direct, storeVar, Value.cells, storeCells, Addr.add]
  rw [run_store Tryd.prog W ta _ _ (by rfl)]
  simp [ht, hf]
end Go.Proofs.YtadpoocafhddeaaDoor
namespace Go.Proofs.YtadpoocafhddeaaDoor
open Go.RowKit Go.Extern.Stop Go.Stop Go.Extern

/-- The variable that errors.As reads: the type 'error', by reflectlite. -/
def ErrT (w : World) : Prop := w.cell? ⟨0, 0, none⟩ = some (.iface 144 (.agg #[.pointer (some ⟨1, 64, none⟩)]))
theorem ErrT.keep {w w' : World} (h : ErrT w) (hg : Gr w w') : ErrT w' := (hg.cellI (World.block_lt_of_cell? _ _ h)).trans h
theorem as_nil (t : Value) (w : World) :
    Calls Tryd.prog 83 #[.nilIface, t] w fun e w' => e = .returned (.bool false) ∧ w' = w := by
  go_enter Tryd.func83, Tryd.ntmps83
  go_wp2
  go_ret
  exact ⟨rfl, rfl⟩
set_option maxRecDepth 20000 in
set_option maxHeartbeats 4000000 in
theorem as_yes (r : Int) (t : Addr) (old : Value) (w : World) (hg : ErrT w) (ht0 : w.cell? t = some old) (hf0 : w.frozen? t = false) :
    Calls Tryd.prog 83 #[.iface 66 (.int .i64 r), .iface 117 (.pointer (some t))] w fun ev w' => ev = .returned (.bool true) ∧ ∃ w4, Gr w w4 ∧ w' = w4.setCell t (.int .i64 r) := by
  have hlt : 0 < w.heap.size := by
    have := World.block_lt_of_cell? _ _ hg
    simpa using this
  have htl : t.block < w.heap.size := World.block_lt_of_cell? _ _ ht0
  unfold ErrT at hg
  have h6 := @run_callFunc_extern Tryd.prog 95 _ (fun args => ReflectliteValue.unpack (args.getD 0 (.tuple #[]))) Tryd.func95 (by kernel_rfl) (by kernel_rfl) (by kernel_rfl) (by kernel_rfl)
  have h7 := @run_callFunc_extern Tryd.prog 96 _ (ReflectliteValue.methodAny (ReflectliteValue.valueError "reflectlite.Value.Type" 0) (fun t _ _ _ => ReflectliteType.toType t)) Tryd.func96 (by kernel_rfl) (by kernel_rfl) (by kernel_rfl) (by kernel_rfl)
  have h8 := @run_callFunc_extern Tryd.prog 97 _ (ReflectliteValue.method (ReflectliteValue.valueError "reflectlite.Value.IsNil" 0) ReflectliteValue.isNil) Tryd.func97 (by kernel_rfl) (by kernel_rfl) (by kernel_rfl) (by kernel_rfl)
  have h27 := @run_callFunc_extern Tryd.prog 128 _ (ReflectliteType.abiMethod fun t => do pure (.int .u8 (← Rtype.kind t))) Tryd.func128 (by kernel_rfl) (by kernel_rfl) (by kernel_rfl) (by kernel_rfl)
  have h37 := @run_callFunc_extern Tryd.prog 141 _ (ReflectliteType.method ReflectliteType.elem) Tryd.func141 (by kernel_rfl) (by kernel_rfl) (by kernel_rfl) (by kernel_rfl)
  have h38 := @run_callFunc_extern Tryd.prog 142 _ (ReflectliteType.relation "Implements" ReflectliteType.implements_) Tryd.func142 (by kernel_rfl) (by kernel_rfl) (by kernel_rfl) (by kernel_rfl)
  have h10 := @run_callFunc_extern Tryd.prog 102 _ ReflectliteType.typeOf Tryd.func102 (by kernel_rfl) (by kernel_rfl) (by kernel_rfl) (by kernel_rfl)
  have h35 := @run_callFunc_extern Tryd.prog 139 _ (ReflectliteType.relation "AssignableTo" ReflectliteType.assignableTo) Tryd.func139 (by kernel_rfl) (by kernel_rfl) (by kernel_rfl) (by kernel_rfl)
  have h11 := @run_callFunc_extern Tryd.prog 103 _ (ReflectliteValue.method (ReflectliteValue.valueError "reflectlite.Value.Elem" 0) ReflectliteValue.elem) Tryd.func103 (by kernel_rfl) (by kernel_rfl) (by kernel_rfl) (by kernel_rfl)
  have h12 := @run_callFunc_extern Tryd.prog 104 _ ReflectliteValue.set Tryd.func104 (by kernel_rfl) (by kernel_rfl) (by kernel_rfl) (by kernel_rfl)
  have tO := ra_typeOf
  have mA := ra_mAssign
  have aR := ra_assign
  have vR := ra_unpackR
  have f6 := ra_unpackP
  have f7 := ra_typeP
  have mK := ra_mKind
  have mE := ra_mElem
  have mI := ra_mImpl
  have kP := ra_kindP
  have kR := ra_kindR
  have eP := ra_elem
  have iR := ra_impl
  obtain ⟨o1, ho1⟩ : ∃ o, o = Obj.cells #[.pointer (some t)] 117 := ⟨_, rfl⟩
  obtain ⟨o2, ho2⟩ : ∃ o, o = Obj.cells #[.pointer (some ⟨1, 117, none⟩), .pointer (some ⟨w.heap.size, 0, none⟩), .int .u64 150] 133 := ⟨_, rfl⟩
  have g2 : Gr w ((w.alloc o1).alloc o2) := ((Gr.refl w).al _).al _
  have n8 := ra_isNil ⟨w.heap.size, 0, none⟩ t ((w.alloc o1).alloc o2) (by subst ho1; simp)
  have hg2 : ((w.alloc o1).alloc o2).cell? ⟨0, 0, none⟩ = some (.iface 144 (.agg #[.pointer (some ⟨1, 64, none⟩)])) := (g2.cellI hlt).trans hg
  have el := ra_elemV ⟨w.heap.size, 0, none⟩ t (((w.alloc o1).alloc o2).alloc o2) (by rw [World.cell?_alloc_lt _ _ ⟨w.heap.size, 0, none⟩ (by simp; omega)]; subst ho1; simp)
  have g4 : Gr w ((((w.alloc o1).alloc o2).alloc o2).alloc (.cells #[.int .i64 r] 66)) := ((g2.al _).al _)
  have st := ra_set t ⟨w.heap.size + 1 + 1 + 1, 0, none⟩ r old ((((w.alloc o1).alloc o2).alloc o2).alloc (.cells #[.int .i64 r] 66))
    (by rw [World.cell?_alloc_at _ _ _ _ (by simp)]; rfl)
    ((g4.cellI htl).trans ht0)
    (by rw [World.frozen?_alloc_old _ _ t (by simp; omega), World.frozen?_alloc_old _ _ t (by simp; omega), World.frozen?_alloc_old _ _ t (by simp; omega), World.frozen?_alloc_old _ _ t (Nat.ne_of_lt htl)]; exact hf0)
  subst ho1 ho2
  go_enter Tryd.func83, Tryd.ntmps83
  go_wp2
  refine wp_loop_rounds 1 ?_
  rw [rounds_succ]
  go_wp2
  go_ret
  exact ⟨rfl, _, g4, rfl⟩
end Go.Proofs.YtadpoocafhddeaaDoor
namespace Go.Proofs.YtadpoocafhddeaaDoor
open Go.RowKit Go.Sort

theorem iRef_nil (w : World) : Calls Tryd.prog 62 #[.nilIface] w fun e w' => e = .returned (.int .i64 0) ∧ Gr w w' := by
  go_enter Tryd.func62, Tryd.ntmps62
  go_wp2_with (go_at_call 83; refine (as_nil _ _).mono ?_; rintro e w1 ⟨rfl, rfl⟩)
  go_ret
  exact ⟨rfl, (Gr.refl _).al _⟩
set_option maxRecDepth 20000 in
theorem iRef_yes (r : Int) (w : World) (h : ErrT w) : Calls Tryd.prog 62 #[.iface 66 (.int .i64 r)] w fun e w' => e = .returned (.int .i64 r) ∧ Gr w w' := by
  have HA := hid (as_yes r ⟨w.heap.size, 0, none⟩ (.int .i64 0) (w.alloc (.cells #[.int .i64 0] 66)) (h.keep ((Gr.refl w).al _)) (by simp) (by simp))
  go_enter Tryd.func62, Tryd.ntmps62
  go_wp2_with (go_at_call 83; refine HA.out.mono ?_; rintro e w1 ⟨rfl, w4, g4, rfl⟩; obtain ⟨y4, z4, G4⟩ := alloc1 g4; have Y4 := hid (set1_new (a := .int .i64 r) y4); have G5 := hid (G4.setCell (a := ⟨w.heap.size, 0, none⟩) (by simp) (.int .i64 r)); have _ := cells1 Y4.out; clear g4 y4 z4 G4)
  go_ret
  exact ⟨rfl, G5.out⟩
/-- The block of a call's own variable, behind a call that has changed one elder block. -/
theorem Only.own {eb : Nat} {w w3 : World} {o : Obj} (h : Only eb (w.alloc o) w3) (v : Value) : Only eb w (w3.setCell ⟨w.heap.size, 0, none⟩ v) := by
  refine ⟨fun j o' hj ho => ?_, fun W0 hg hs => ?_⟩
  · have hlt : j < w.heap.size := (Array.getElem?_eq_some_iff.1 ho).1
    rw [Below.heap_setCell _ _ _ _ (by show j ≠ w.heap.size; omega)]
    exact h.1 j o' hj (((Gr.refl w).al o).keep ho)
  · exact (h.2 W0 (hg.al _) hs).setCell (by have := hg.size; simpa using this) _

theorem rc_idleB (b : Nat) (w : World) :
    CallsD Tryd.prog 100 #[.pointer (some ⟨b, 0, none⟩)] .returning w fun e u' w' => e = .returned (.tuple #[]) ∧ u' = .returning ∧ w' = w := by
  have h1 : ∀ w, (Instr.typeAssert .nilIface 20 128 true).run Tryd.prog w = .ok (.tuple #[.nilIface, .bool false]) w := fun _ => by kernel_rfl
  refine callsD_of_wpS Tryd.func100 rfl fun c₀ cs hu => ?_
  apply wpS_seq
  apply wpS_region
  simp [wpOpsS, go_sem, recoverD, hu, Tryd.ntmps100, Exit.thenS, ↓h1]
  apply wpS_of_wp
  go_wp2
  cases c₀
  simp_all [bodyPostS, results, Tryd.results100]
set_option maxRecDepth 20000 in
set_option maxHeartbeats 400000 in
theorem rc_toldB (f : Nat) (cap : Array Value) (b : Bool) (eb : Nat) (ev : Value) (T : TypeId) (w : World) (hen : ∀ w, (callFunc f cap).run Tryd.prog w = .ok (.enter f cap) w) (heb : eb < w.heap.size) (hF : ∀ w', Gr w w' → Calls Tryd.prog f cap w' fun e w'' => e = .returned (.bool b) ∧ w''.heap[eb]? = some (.cells #[ev] T) ∧ Only eb w' w'') :
    Calls Tryd.prog 85 #[.func (.func f) #[] cap] w fun e w' => e = .returned (.tuple #[.bool b, .int .i64 0]) ∧ w'.heap[eb]? = some (.cells #[ev] T) ∧ Only eb w w' := by
  have HF := hid hF; clear hF
  go_enter_defers Tryd.func85, Tryd.ntmps85
  go_wp2_with fail
  refine (HF.out _ (Gr.alloc _ _)).mono ?_
  rintro e w1 ⟨rfl, he, ho⟩
  have x1 := ho.1 w.heap.size _ (by omega) (alloc1 (Gr.refl _)).1
  have _ := cells1 x1
  have _ := fz x1
  have hlt := ltb x1
  have HO := hid ho; have HE := hid he
  clear x1 ho he
  go_wp2_with fail
  refine leaves_cons (f := 100) (args := #[.pointer (some ⟨w.heap.size, 0, none⟩)]) (by simp) (by simp [go_sem]) ?_
  refine (rc_idleB _ _).mono ?_
  rintro e u' w2 ⟨rfl, rfl, rfl⟩
  simp [Leaves, settle, results, Tryd.results85, go_sem, *]
  exact ⟨(Below.heap_setCell _ _ _ _ (by show eb ≠ w.heap.size; omega)).trans HE.out, HO.out.own _⟩
set_option maxRecDepth 20000 in
set_option maxHeartbeats 400000 in
theorem rc_runB (g : Nat) (cap : Array Value) (b : Bool) (fb eb : Nat) (ev o0 : Value) (Tf : TypeId) (w : World) (_hne : fb ≠ eb) (hen : ∀ w, (callFunc g cap).run Tryd.prog w = .ok (.enter g cap) w) (hfb : w.heap[fb]? = some (.cells #[.func (.func g) #[] cap] Tf)) (heb : w.heap[eb]? = some (.cells #[o0] 64)) (hG : ∀ w', Gr w w' → Calls Tryd.prog g cap w' fun e w'' => e = .returned (.tuple #[.bool b, ev]) ∧ Gr w' w'') (hev : ev = .nilIface ∨ ∃ r, ev = .iface 66 (.int .i64 r)) :
    Calls Tryd.prog 86 #[.pointer (some ⟨fb, 0, none⟩), .pointer (some ⟨eb, 0, none⟩)] w fun e w' => e = .returned (.bool b) ∧ w'.heap[eb]? = some (.cells #[ev] 64) ∧ Only eb w w' := by
  have HG := hid hG; clear hG
  have _ := cells1 hfb
  have HEB := hid heb
  clear hfb heb
  rcases hev with rfl | ⟨r, rfl⟩
  · go_enter Tryd.func86, Tryd.ntmps86
    go_wp2_with fail
    refine (HG.out _ (Gr.refl _)).mono ?_
    rintro e w1 ⟨rfl, hg⟩
    have x1 := hg.keep HEB.out
    have _ := cells1 x1
    have _ := fz x1
    have hlt := ltb x1
    have X1 := hid x1; have G1 := hid hg
    clear x1 hg
    go_wp2_with fail
    go_ret
    exact ⟨rfl, set1_new X1.out, ⟨fun j o hj ho => (Below.heap_setCell _ _ _ _ hj).trans (G1.out.keep ho), fun W0 h0 hs => (h0.trans G1.out).setCell hs _⟩⟩
  · go_enter Tryd.func86, Tryd.ntmps86
    go_wp2_with fail
    refine (HG.out _ (Gr.refl _)).mono ?_
    rintro e w1 ⟨rfl, hg⟩
    have x1 := hg.keep HEB.out
    have _ := cells1 x1
    have _ := fz x1
    have hlt := ltb x1
    have X1 := hid x1; have G1 := hid hg
    clear x1 hg
    go_wp2_with fail
    go_ret
    exact ⟨rfl, set1_new X1.out, ⟨fun j o hj ho => (Below.heap_setCell _ _ _ _ hj).trans (G1.out.keep ho), fun W0 h0 hs => (h0.trans G1.out).setCell hs _⟩⟩

theorem rc_idleI (b : Nat) (w : World) :
    CallsD Tryd.prog 94 #[.pointer (some ⟨b, 0, none⟩)] .returning w fun e u' w' => e = .returned (.tuple #[]) ∧ u' = .returning ∧ w' = w := by
  have h1 : ∀ w, (Instr.typeAssert .nilIface 20 128 true).run Tryd.prog w = .ok (.tuple #[.nilIface, .bool false]) w := fun _ => by kernel_rfl
  refine callsD_of_wpS Tryd.func94 rfl fun c₀ cs hu => ?_
  apply wpS_seq
  apply wpS_region
  simp [wpOpsS, go_sem, recoverD, hu, Tryd.ntmps94, Exit.thenS, ↓h1]
  apply wpS_of_wp
  go_wp2
  cases c₀
  simp_all [bodyPostS, results, Tryd.results94]
set_option maxRecDepth 20000 in
set_option maxHeartbeats 400000 in
theorem rc_toldI (f : Nat) (cap : Array Value) (b : Int) (eb : Nat) (ev : Value) (T : TypeId) (w : World) (hen : ∀ w, (callFunc f cap).run Tryd.prog w = .ok (.enter f cap) w) (heb : eb < w.heap.size) (hF : ∀ w', Gr w w' → Calls Tryd.prog f cap w' fun e w'' => e = .returned (.int .i64 b) ∧ w''.heap[eb]? = some (.cells #[ev] T) ∧ Only eb w' w'') :
    Calls Tryd.prog 81 #[.func (.func f) #[] cap] w fun e w' => e = .returned (.tuple #[.int .i64 b, .int .i64 0]) ∧ w'.heap[eb]? = some (.cells #[ev] T) ∧ Only eb w w' := by
  have HF := hid hF; clear hF
  go_enter_defers Tryd.func81, Tryd.ntmps81
  go_wp2_with fail
  refine (HF.out _ (Gr.alloc _ _)).mono ?_
  rintro e w1 ⟨rfl, he, ho⟩
  have x1 := ho.1 w.heap.size _ (by omega) (alloc1 (Gr.refl _)).1
  have _ := cells1 x1
  have _ := fz x1
  have hlt := ltb x1
  have HO := hid ho; have HE := hid he
  clear x1 ho he
  go_wp2_with fail
  refine leaves_cons (f := 94) (args := #[.pointer (some ⟨w.heap.size, 0, none⟩)]) (by simp) (by simp [go_sem]) ?_
  refine (rc_idleI _ _).mono ?_
  rintro e u' w2 ⟨rfl, rfl, rfl⟩
  simp [Leaves, settle, results, Tryd.results81, go_sem, *]
  exact ⟨(Below.heap_setCell _ _ _ _ (by show eb ≠ w.heap.size; omega)).trans HE.out, HO.out.own _⟩
set_option maxRecDepth 20000 in
set_option maxHeartbeats 400000 in
theorem rc_runI (g : Nat) (cap : Array Value) (b : Int) (fb eb : Nat) (ev o0 : Value) (Tf : TypeId) (w : World) (_hne : fb ≠ eb) (hen : ∀ w, (callFunc g cap).run Tryd.prog w = .ok (.enter g cap) w) (hfb : w.heap[fb]? = some (.cells #[.func (.func g) #[] cap] Tf)) (heb : w.heap[eb]? = some (.cells #[o0] 64)) (hG : ∀ w', Gr w w' → Calls Tryd.prog g cap w' fun e w'' => e = .returned (.tuple #[.int .i64 b, ev]) ∧ Gr w' w'') (hev : ev = .nilIface ∨ ∃ r, ev = .iface 66 (.int .i64 r)) :
    Calls Tryd.prog 82 #[.pointer (some ⟨fb, 0, none⟩), .pointer (some ⟨eb, 0, none⟩)] w fun e w' => e = .returned (.int .i64 b) ∧ w'.heap[eb]? = some (.cells #[ev] 64) ∧ Only eb w w' := by
  have HG := hid hG; clear hG
  have _ := cells1 hfb
  have HEB := hid heb
  clear hfb heb
  rcases hev with rfl | ⟨r, rfl⟩
  · go_enter Tryd.func82, Tryd.ntmps82
    go_wp2_with fail
    refine (HG.out _ (Gr.refl _)).mono ?_
    rintro e w1 ⟨rfl, hg⟩
    have x1 := hg.keep HEB.out
    have _ := cells1 x1
    have _ := fz x1
    have hlt := ltb x1
    have X1 := hid x1; have G1 := hid hg
    clear x1 hg
    go_wp2_with fail
    go_ret
    exact ⟨rfl, set1_new X1.out, ⟨fun j o hj ho => (Below.heap_setCell _ _ _ _ hj).trans (G1.out.keep ho), fun W0 h0 hs => (h0.trans G1.out).setCell hs _⟩⟩
  · go_enter Tryd.func82, Tryd.ntmps82
    go_wp2_with fail
    refine (HG.out _ (Gr.refl _)).mono ?_
    rintro e w1 ⟨rfl, hg⟩
    have x1 := hg.keep HEB.out
    have _ := cells1 x1
    have _ := fz x1
    have hlt := ltb x1
    have X1 := hid x1; have G1 := hid hg
    clear x1 hg
    go_wp2_with fail
    go_ret
    exact ⟨rfl, set1_new X1.out, ⟨fun j o hj ho => (Below.heap_setCell _ _ _ _ hj).trans (G1.out.keep ho), fun W0 h0 hs => (h0.trans G1.out).setCell hs _⟩⟩
end Go.Proofs.YtadpoocafhddeaaDoor
namespace Go.Proofs.YtadpoocafhddeaaDoor
open Go.RowKit Go.Sort

set_option maxRecDepth 20000 in
set_option maxHeartbeats 1000000 in
theorem rc_workB (g : Nat) (cap : Array Value) (b : Bool) (ev : Value) (c : Int) (w : World) (E : Hid (ErrT w)) (hen : ∀ w, (callFunc g cap).run Tryd.prog w = .ok (.enter g cap) w) (hG : ∀ w', Gr w w' → Calls Tryd.prog g cap w' fun e w'' => e = .returned (.tuple #[.bool b, ev]) ∧ Gr w' w'') (hc : (ev = .nilIface ∧ c = 0) ∨ ev = .iface 66 (.int .i64 c)) :
    Calls Tryd.prog 68 #[.func (.func 62) #[] #[], .func (.func g) #[] cap] w fun e w' => e = .returned (.tuple #[.bool b, .int .i64 c]) ∧ Gr w w' := by
  have HG := hid hG; clear hG
  rcases hc with ⟨rfl, rfl⟩ | rfl
  · go_enter Tryd.func68, Tryd.ntmps68
    go_wp2_with fail
    refine (rc_toldB 86 _ b (w.heap.size + 1) .nilIface 64 _ (fun _ => by kernel_rfl) (by simp) ?_).mono ?_
    · intro w' hg
      obtain ⟨y0, y1, _, g0⟩ := alloc2 hg
      exact rc_runB g cap b w.heap.size (w.heap.size + 1) .nilIface .nilIface _ w' (by omega) hen y0 y1 (fun w'' h => HG.out _ (g0.trans h)) (.inl rfl)
    · rintro e w1 ⟨rfl, he, ho⟩
      have G1 := hid (ho.2 w (((Gr.refl w).al _).al _) (by omega))
      have _ := cells1 he
      have HE := hid he
      clear ho he
      go_wp2_with (fail)
      go_ret2
      exact ⟨rfl, G1.out⟩
  · go_enter Tryd.func68, Tryd.ntmps68
    go_wp2_with fail
    refine (rc_toldB 86 _ b (w.heap.size + 1) (.iface 66 (.int .i64 c)) 64 _ (fun _ => by kernel_rfl) (by simp) ?_).mono ?_
    · intro w' hg
      obtain ⟨y0, y1, _, g0⟩ := alloc2 hg
      exact rc_runB g cap b w.heap.size (w.heap.size + 1) (.iface 66 (.int .i64 c)) .nilIface _ w' (by omega) hen y0 y1 (fun w'' h => HG.out _ (g0.trans h)) (.inr ⟨_, rfl⟩)
    · rintro e w1 ⟨rfl, he, ho⟩
      have G1 := hid (ho.2 w (((Gr.refl w).al _).al _) (by omega))
      have _ := cells1 he
      have HE := hid he
      clear ho he
      go_wp2_with (go_at_call 62; refine (iRef_yes c _ (E.out.keep G1.out)).mono ?_; rintro e w2 ⟨rfl, g2⟩; have G2 := hid (G1.out.trans g2); clear g2)
      go_ret2
      exact ⟨rfl, G2.out⟩

set_option maxRecDepth 20000 in
set_option maxHeartbeats 1000000 in
theorem rc_workI (g : Nat) (cap : Array Value) (b : Int) (ev : Value) (c : Int) (w : World) (E : Hid (ErrT w)) (hen : ∀ w, (callFunc g cap).run Tryd.prog w = .ok (.enter g cap) w) (hG : ∀ w', Gr w w' → Calls Tryd.prog g cap w' fun e w'' => e = .returned (.tuple #[.int .i64 b, ev]) ∧ Gr w' w'') (hc : (ev = .nilIface ∧ c = 0) ∨ ev = .iface 66 (.int .i64 c)) :
    Calls Tryd.prog 61 #[.func (.func 62) #[] #[], .func (.func g) #[] cap] w fun e w' => e = .returned (.tuple #[.int .i64 b, .int .i64 c]) ∧ Gr w w' := by
  have HG := hid hG; clear hG
  rcases hc with ⟨rfl, rfl⟩ | rfl
  · go_enter Tryd.func61, Tryd.ntmps61
    go_wp2_with fail
    refine (rc_toldI 82 _ b (w.heap.size + 1) .nilIface 64 _ (fun _ => by kernel_rfl) (by simp) ?_).mono ?_
    · intro w' hg
      obtain ⟨y0, y1, _, g0⟩ := alloc2 hg
      exact rc_runI g cap b w.heap.size (w.heap.size + 1) .nilIface .nilIface _ w' (by omega) hen y0 y1 (fun w'' h => HG.out _ (g0.trans h)) (.inl rfl)
    · rintro e w1 ⟨rfl, he, ho⟩
      have G1 := hid (ho.2 w (((Gr.refl w).al _).al _) (by omega))
      have _ := cells1 he
      have HE := hid he
      clear ho he
      go_wp2_with (fail)
      go_ret2
      exact ⟨rfl, G1.out⟩
  · go_enter Tryd.func61, Tryd.ntmps61
    go_wp2_with fail
    refine (rc_toldI 82 _ b (w.heap.size + 1) (.iface 66 (.int .i64 c)) 64 _ (fun _ => by kernel_rfl) (by simp) ?_).mono ?_
    · intro w' hg
      obtain ⟨y0, y1, _, g0⟩ := alloc2 hg
      exact rc_runI g cap b w.heap.size (w.heap.size + 1) (.iface 66 (.int .i64 c)) .nilIface _ w' (by omega) hen y0 y1 (fun w'' h => HG.out _ (g0.trans h)) (.inr ⟨_, rfl⟩)
    · rintro e w1 ⟨rfl, he, ho⟩
      have G1 := hid (ho.2 w (((Gr.refl w).al _).al _) (by omega))
      have _ := cells1 he
      have HE := hid he
      clear ho he
      go_wp2_with (go_at_call 62; refine (iRef_yes c _ (E.out.keep G1.out)).mono ?_; rintro e w2 ⟨rfl, g2⟩; have G2 := hid (G1.out.trans g2); clear g2)
      go_ret2
      exact ⟨rfl, G2.out⟩
end Go.Proofs.YtadpoocafhddeaaDoor
