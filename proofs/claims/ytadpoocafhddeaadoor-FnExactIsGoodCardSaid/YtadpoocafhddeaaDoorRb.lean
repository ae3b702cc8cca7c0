/- REFUSALS: errors.As of an error that is a refusal, and refusalCode. -/
import Derived.Test.YtadpoocafhddeaaDoorRa
import Derived.Test.YtadpoocafhddeaaDoorIs
import Derived.WalkKit
namespace Go.Proofs.YtadpoocafhddeaaDoor
open Go.RowKit Go.Extern.Stop Go.Stop Go.Extern

/-- The variable that errors.As reads: the type 'error', by reflectlite. -/
def ErrT (w : World) : Prop := w.cell? ⟨0, 0, none⟩ = some (.iface 144 (.agg #[.pointer (some ⟨1, 64, none⟩)]))
theorem ErrT.keep {w w' : World} (h : ErrT w) (hg : Gr w w') : ErrT w' := (hg.cellI (World.block_lt_of_cell? _ _ h)).trans h
theorem as_nil (t : Value) (w : World) :
    Calls Tryd.prog 83 #[.nilIface, t] w fun e w' => e = .returned (.bool false) ∧ w' = w := by
  go_enter Tryd.func83, Tryd.ntmps83
  go_wp2
  go_ret
  exact ⟨rfl, rfl⟩
set_option maxRecDepth 20000 in
set_option maxHeartbeats 4000000 in
theorem as_yes (r : Int) (t : Addr) (old : Value) (w : World) (hg : ErrT w) (ht0 : w.cell? t = some old) (hf0 : w.frozen? t = false) :
    Calls Tryd.prog 83 #[.iface 66 (.int .i64 r), .iface 117 (.pointer (some t))] w fun ev w' => ev = .returned (.bool true) ∧ ∃ w4, Gr w w4 ∧ w' = w4.setCell t (.int .i64 r) := by
  have hlt : 0 < w.heap.size := by
    have := World.block_lt_of_cell? _ _ hg
    simpa using this
  have htl : t.block < w.heap.size := World.block_lt_of_cell? _ _ ht0
  unfold ErrT at hg
  have h6 := @run_callFunc_extern Tryd.prog 95 _ (fun args => ReflectliteValue.unpack (args.getD 0 (.tuple #[]))) Tryd.func95 (by kernel_rfl) (by kernel_rfl) (by kernel_rfl) (by kernel_rfl)
  have h7 := @run_callFunc_extern Tryd.prog 96 _ (ReflectliteValue.methodAny (ReflectliteValue.valueError "reflectlite.Value.Type" 0) (fun t _ _ _ => ReflectliteType.toType t)) Tryd.func96 (by kernel_rfl) (by kernel_rfl) (by kernel_rfl) (by kernel_rfl)
  have h8 := @run_callFunc_extern Tryd.prog 97 _ (ReflectliteValue.method (ReflectliteValue.valueError "reflectlite.Value.IsNil" 0) ReflectliteValue.isNil) Tryd.func97 (by kernel_rfl) (by kernel_rfl) (by kernel_rfl) (by kernel_rfl)
  have h27 := @run_callFunc_extern Tryd.prog 128 _ (ReflectliteType.abiMethod fun t => do pure (.int .u8 (← Rtype.kind t))) Tryd.func128 (by kernel_rfl) (by kernel_rfl) (by kernel_rfl) (by kernel_rfl)
  have h37 := @run_callFunc_extern Tryd.prog 141 _ (ReflectliteType.method ReflectliteType.elem) Tryd.func141 (by kernel_rfl) (by kernel_rfl) (by kernel_rfl) (by kernel_rfl)
  have h38 := @run_callFunc_extern Tryd.prog 142 _ (ReflectliteType.relation "Implements" ReflectliteType.implements_) Tryd.func142 (by kernel_rfl) (by kernel_rfl) (by kernel_rfl) (by kernel_rfl)
  have h10 := @run_callFunc_extern Tryd.prog 102 _ ReflectliteType.typeOf Tryd.func102 (by kernel_rfl) (by kernel_rfl) (by kernel_rfl) (by kernel_rfl)
  have h35 := @run_callFunc_extern Tryd.prog 139 _ (ReflectliteType.relation "AssignableTo" ReflectliteType.assignableTo) Tryd.func139 (by kernel_rfl) (by kernel_rfl) (by kernel_rfl) (by kernel_rfl)
  have h11 := @run_callFunc_extern Tryd.prog 103 _ (ReflectliteValue.method (ReflectliteValue.valueError "reflectlite.Value.Elem" 0) ReflectliteValue.elem) Tryd.func103 (by kernel_rfl) (by kernel_rfl) (by kernel_rfl) (by kernel_rfl)
  have h12 := @run_callFunc_extern Tryd.prog 104 _ ReflectliteValue.set Tryd.func104 (by kernel_rfl) (by kernel_rfl) (by kernel_rfl) (by kernel_rfl)
  have tO := ra_typeOf
  have mA := ra_mAssign
  have aR := ra_assign
  have vR := ra_unpackR
  have f6 := ra_unpackP
  have f7 := ra_typeP
  have mK := ra_mKind
  have mE := ra_mElem
  have mI := ra_mImpl
  have kP := ra_kindP
  have kR := ra_kindR
  have eP := ra_elem
  have iR := ra_impl
  obtain ⟨o1, ho1⟩ : ∃ o, o = Obj.cells #[.pointer (some t)] 117 := ⟨_, rfl⟩
  obtain ⟨o2, ho2⟩ : ∃ o, o = Obj.cells #[.pointer (some ⟨1, 117, none⟩), .pointer (some ⟨w.heap.size, 0, none⟩), .int .u64 150] 133 := ⟨_, rfl⟩
  have g2 : Gr w ((w.alloc o1).alloc o2) := ((Gr.refl w).al _).al _
  have n8 := ra_isNil ⟨w.heap.size, 0, none⟩ t ((w.alloc o1).alloc o2) (by subst ho1; simp)
  have hg2 : ((w.alloc o1).alloc o2).cell? ⟨0, 0, none⟩ = some (.iface 144 (.agg #[.pointer (some ⟨1, 64, none⟩)])) := (g2.cellI hlt).trans hg
  have el := ra_elemV ⟨w.heap.size, 0, none⟩ t (((w.alloc o1).alloc o2).alloc o2) (by rw [World.cell?_alloc_lt _ _ ⟨w.heap.size, 0, none⟩ (by simp; omega)]; subst ho1; simp)
  have g4 : Gr w ((((w.alloc o1).alloc o2).alloc o2).alloc (.cells #[.int .i64 r] 66)) := ((g2.al _).al _)
  have st := ra_set t ⟨w.heap.size + 1 + 1 + 1, 0, none⟩ r old ((((w.alloc o1).alloc o2).alloc o2).alloc (.cells #[.int .i64 r] 66))
    (by rw [World.cell?_alloc_at _ _ _ _ (by simp)]; rfl)
    ((g4.cellI htl).trans ht0)
    (by rw [World.frozen?_alloc_old _ _ t (by simp; omega), World.frozen?_alloc_old _ _ t (by simp; omega), World.frozen?_alloc_old _ _ t (by simp; omega), World.frozen?_alloc_old _ _ t (Nat.ne_of_lt htl)]; exact hf0)
  subst ho1 ho2
  go_enter Tryd.func83, Tryd.ntmps83
  go_wp2
  refine wp_loop_rounds 1 ?_
  rw [rounds_succ]
  go_wp2
  go_ret
  exact ⟨rfl, _, g4, rfl⟩
end Go.Proofs.YtadpoocafhddeaaDoor
