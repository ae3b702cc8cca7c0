/- REFUSALS: errors.As of an error that is a refusal, and refusalCode. -/
import Derived.Test.YtadpoocafhddeaaDoorB0
import Derived.LaidEql
import Derived.Stop.Asserts
import Derived.RowKitTokens
import Derived.Lib.ReflectliteSlice
namespace Go.Proofs.YtadpoocafhddeaaDoor
open Go.RowKit Go.Extern.Stop Go.Stop Go.Extern

/-! what the model's entries for internal/reflectlite do at the types of refusals -/
theorem ra_unpackP (t : Addr) (w : World) : (ReflectliteValue.unpack (.iface 117 (.pointer (some t)))).run Tryd.prog w
    = .ok (.agg #[.pointer (some ⟨1, 117, none⟩), .pointer (some ⟨w.heap.size, 0, none⟩), .int .u64 150]) (w.alloc (.cells #[.pointer (some t)] 117)) := by kernel_rfl
theorem ra_typeP (a : Addr) (w : World) : (ReflectliteValue.methodAny (ReflectliteValue.valueError "reflectlite.Value.Type" 0) (fun t _ _ _ => ReflectliteType.toType t) #[.agg #[.pointer (some ⟨1, 117, none⟩), .pointer (some a), .int .u64 150]]).run Tryd.prog w
    = .ok (.iface 144 (.agg #[.pointer (some ⟨1, 117, none⟩)])) w := by kernel_rfl
theorem ra_mKind (h : Value) (w : World) : (Go.method 296 144 (.agg #[h]) "Kind").run Tryd.prog w = .ok (128, h) w := by kernel_rfl
theorem ra_kindP (w : World) : ((ReflectliteType.abiMethod fun t => (fun a : Nat => Value.int IntKind.u8 (a : Int)) <$> Rtype.kind t) #[.pointer (some ⟨1, 117, none⟩)]).run Tryd.prog w = .ok (.int .u8 22) w := by kernel_rfl
theorem ra_kindR (w : World) : ((ReflectliteType.abiMethod fun t => (fun a : Nat => Value.int IntKind.u8 (a : Int)) <$> Rtype.kind t) #[.pointer (some ⟨1, 66, none⟩)]).run Tryd.prog w = .ok (.int .u8 6) w := by kernel_rfl
theorem ra_partsP (a : Addr) (w : World) : (ReflectliteValue.parts (.agg #[.pointer (some ⟨1, 117, none⟩), .pointer (some a), .int .u64 150])).run Tryd.prog w = .ok (some (117, a, 150)) w := by kernel_rfl
theorem ra_isNil (a p : Addr) (W : World) (ha : W.cell? a = some (.pointer (some p))) :
    (ReflectliteValue.method (ReflectliteValue.valueError "reflectlite.Value.IsNil" 0) ReflectliteValue.isNil #[.agg #[.pointer (some ⟨1, 117, none⟩), .pointer (some a), .int .u64 150]]).run Tryd.prog W = .ok (.bool false) W := by
  rw [Go.Lib.rl_method]
  simp only [Sem.run_bind, ra_partsP, Result.andThen]
  simp [ReflectliteValue.isNil, loadVar, isAgg, underlying, Tryd.underlying117, ha, Result.andThen]
theorem ra_mElem (h : Value) (w : World) : (Go.method 296 144 (.agg #[h]) "Elem").run Tryd.prog w = .ok (141, .agg #[h]) w := by kernel_rfl
theorem ra_mImpl (h : Value) (w : World) : (Go.method 296 144 (.agg #[h]) "Implements").run Tryd.prog w = .ok (142, .agg #[h]) w := by kernel_rfl
theorem ra_mAssign (h : Value) (w : World) : (Go.method 296 144 (.agg #[h]) "AssignableTo").run Tryd.prog w = .ok (139, .agg #[h]) w := by kernel_rfl
theorem ra_elem (w : World) : (ReflectliteType.method ReflectliteType.elem #[.agg #[.pointer (some ⟨1, 117, none⟩)]]).run Tryd.prog w = .ok (.iface 144 (.agg #[.pointer (some ⟨1, 66, none⟩)])) w := by kernel_rfl
theorem ra_impl (w : World) : (ReflectliteType.relation "Implements" ReflectliteType.implements_ #[.agg #[.pointer (some ⟨1, 66, none⟩)], .iface 144 (.agg #[.pointer (some ⟨1, 64, none⟩)])]).run Tryd.prog w = .ok (.bool true) w := by kernel_rfl
theorem ra_typeOf (v : Value) (w : World) : (ReflectliteType.typeOf #[.iface 66 v]).run Tryd.prog w = .ok (.iface 144 (.agg #[.pointer (some ⟨1, 66, none⟩)])) w := by kernel_rfl
theorem ra_assign (w : World) : (ReflectliteType.relation "AssignableTo" ReflectliteType.assignableTo #[.agg #[.pointer (some ⟨1, 66, none⟩)], .iface 144 (.agg #[.pointer (some ⟨1, 66, none⟩)])]).run Tryd.prog w = .ok (.bool true) w := by kernel_rfl
theorem ra_unpackR (r : Int) (w : World) : (ReflectliteValue.unpack (.iface 66 (.int .i64 r))).run Tryd.prog w
    = .ok (.agg #[.pointer (some ⟨1, 66, none⟩), .pointer (some ⟨w.heap.size, 0, none⟩), .int .u64 134]) (w.alloc (.cells #[.int .i64 r] 66)) := by kernel_rfl
theorem ra_elemOf (w : World) : (Rtype.elem? 117).run Tryd.prog w = .ok (some 66) w := by kernel_rfl
theorem ra_mk (p : Addr) (w : World) : (ReflectliteValue.mk 66 p ReflectliteValue.flagAddr).run Tryd.prog w = .ok (.agg #[.pointer (some ⟨1, 66, none⟩), .pointer (some p), .int .u64 390]) w := by kernel_rfl
theorem ra_elemV (a p : Addr) (W : World) (ha : W.cell? a = some (.pointer (some p))) :
    (ReflectliteValue.method (ReflectliteValue.valueError "reflectlite.Value.Elem" 0) ReflectliteValue.elem #[.agg #[.pointer (some ⟨1, 117, none⟩), .pointer (some a), .int .u64 150]]).run Tryd.prog W
      = .ok (.agg #[.pointer (some ⟨1, 66, none⟩), .pointer (some p), .int .u64 390]) W := by
  rw [Go.Lib.rl_method]
  simp only [Sem.run_bind, ra_partsP, Result.andThen]
  simp [ReflectliteValue.elem, loadVar, isAgg, underlying, Tryd.underlying117, ha, Result.andThen, ra_elemOf, ra_mk]
theorem ra_partsA (a : Addr) (w : World) : (ReflectliteValue.parts (.agg #[.pointer (some ⟨1, 66, none⟩), .pointer (some a), .int .u64 390])).run Tryd.prog w = .ok (some (66, a, 390)) w := by kernel_rfl
theorem ra_partsR (a : Addr) (w : World) : (ReflectliteValue.parts (.agg #[.pointer (some ⟨1, 66, none⟩), .pointer (some a), .int .u64 134])).run Tryd.prog w = .ok (some (66, a, 134)) w := by kernel_rfl
theorem ra_direct (w : World) : (Rtype.directlyAssignable 66 66).run Tryd.prog w = .ok true w := by kernel_rfl
universe u
theorem ra_match (m : Array Value → Sort u) (v x : Value) (h1 : (v x : Value) → m #[v, x]) (h2 : (x : Array Value) → m x) : ReflectliteValue.set.match_3 m #[v, x] h1 h2 = h1 v x := rfl
theorem ra_set (ta b : Addr) (r : Int) (old : Value) (W : World) (hb : W.cell? b = some (.int .i64 r)) (ht : W.cell? ta = some old) (hf : W.frozen? ta = false) :
    (ReflectliteValue.set #[.agg #[.pointer (some ⟨1, 66, none⟩), .pointer (some ta), .int .u64 390], .agg #[.pointer (some ⟨1, 66, none⟩), .pointer (some b), .int .u64 134]]).run Tryd.prog W
      = .ok (.tuple #[]) (W.setCell ta (.int .i64 r)) := by
  delta ReflectliteValue.set
  rw [ra_match]
  simp only [Sem.run_bind, ra_partsA, ra_partsR, Result.andThen]
  simp [ReflectliteValue.flagAddr, loadVar, isAgg, underlying, Tryd.underlying66, hb, Result.andThen, ra_direct, storeVar, Value.cells, storeCells, Addr.add]
  rw [run_store Tryd.prog W ta _ _ (by rfl)]
  simp [ht, hf]
end Go.Proofs.YtadpoocafhddeaaDoor
