/-
  DERIVED: THE SHELF's CONTRACTS AT THIS DUMP, IN PLAIN WORDS (tools/lay-plain.mjs out of 'YtfcoigdmnmgohaaShelf.lean', which tools/lay-shelf.mjs wrote): THE SAME DECLARATIONS UNDER THE SAME NAMES: 'import', 'namespace', 'open', 'def', 'theorem' AND NOTHING ELSE: no command of the shelf's: FOR A HAND-IN. Each laying: the table of numbers ('.._ren') and one theorem, a field a fact of the dump's own or the kernel's comparison; each contract: ONE APPLICATION.
-/
import Derived.Ground.SlgmProg
import Derived.Shelf.SortM.Plain
import Derived.Shelf.SortM.SortNone
import Derived.Test.YtfcoigdmnmgohaaProg
namespace Go.Proofs
open Go.Shelf
def Try.laysSlM5_f160_ren : Go.Shelf.Ren := ⟨fun | 5 => 160 | 8 => 202 | 7 => 201 | 19 => 230 | 20 => 231 | 10 => 221 | 11 => 222 | 12 => 223 | 13 => 224 | 14 => 225 | 15 => 226 | 16 => 227 | 17 => 228 | 18 => 229 | 30 => 238 | 31 => 239 | 32 => 240 | 33 => 241 | 34 => 242 | 35 => 243 | 40 => 246 | n => n, fun | 23 => 47 | 25 => 2 | 3 => 3 | 32 => 202 | 22 => 47 | 0 => 0 | 44 => 228 | 46 => 231 | 4 => 4 | 36 => 242 | 35 => 241 | 41 => 196 | 5 => 5 | 9 => 9 | 53 => 255 | 57 => 259 | 63 => 263 | 64 => 264 | n => n, fun | n => n⟩
theorem Try.laysSlM5_f160 : Go.Proofs.SlLaysM.n5 Try.prog Try.laysSlM5_f160_ren := {
  mixed := by kernel_rfl
  f5 := ⟨Try.f160.name, by decide, Try.func160.trans (congrArg some (by kernel_rfl))⟩
  f7 := ⟨Try.f201.name, by decide, Try.func201.trans (congrArg some (by kernel_rfl))⟩
  f8 := Try.func202.trans (congrArg some (by kernel_rfl))
  f10 := ⟨Try.f221.name, by decide, Try.func221.trans (congrArg some (by kernel_rfl))⟩
  f11 := ⟨Try.f222.name, by decide, Try.func222.trans (congrArg some (by kernel_rfl))⟩
  f12 := ⟨Try.f223.name, by decide, Try.func223.trans (congrArg some (by kernel_rfl))⟩
  f13 := ⟨Try.f224.name, by decide, Try.func224.trans (congrArg some (by kernel_rfl))⟩
  f14 := ⟨Try.f225.name, by decide, Try.func225.trans (congrArg some (by kernel_rfl))⟩
  f15 := ⟨Try.f226.name, by decide, Try.func226.trans (congrArg some (by kernel_rfl))⟩
  f16 := ⟨Try.f227.name, by decide, Try.func227.trans (congrArg some (by kernel_rfl))⟩
  f17 := ⟨Try.f228.name, by decide, Try.func228.trans (congrArg some (by kernel_rfl))⟩
  f18 := ⟨Try.f229.name, by decide, Try.func229.trans (congrArg some (by kernel_rfl))⟩
  f19 := Try.func230.trans (congrArg some (by kernel_rfl))
  f20 := Try.func231.trans (congrArg some (by kernel_rfl))
  f30 := ⟨Try.f238.name, by decide, Try.func238.trans (congrArg some (by kernel_rfl))⟩
  f31 := Try.func239.trans (congrArg some (by kernel_rfl))
  f32 := Try.func240.trans (congrArg some (by kernel_rfl))
  f33 := ⟨Try.f241.name, by decide, Try.func241.trans (congrArg some (by kernel_rfl))⟩
  f34 := ⟨Try.f242.name, by decide, Try.func242.trans (congrArg some (by kernel_rfl))⟩
  f35 := ⟨Try.f243.name, by decide, Try.func243.trans (congrArg some (by kernel_rfl))⟩
  f40 := ⟨Try.f246.name, by decide, Try.func246.trans (congrArg some (by kernel_rfl))⟩
  t0 := Try.underlying0
  a0 := Try.isAgg0
  z0 := Try.sizeOf0
  v0 := Try.zeroValue0
  t3 := Try.underlying3
  a3 := Try.isAgg3
  z3 := Try.sizeOf3
  v3 := Try.zeroValue3
  t4 := Try.underlying4
  a4 := Try.isAgg4
  z4 := Try.sizeOf4
  v4 := Try.zeroValue4
  t5 := Try.underlying5
  a5 := Try.isAgg5
  z5 := Try.sizeOf5
  v5 := Try.zeroValue5
  t9 := Try.underlying9
  a9 := Try.isAgg9
  z9 := Try.sizeOf9
  v9 := Try.zeroValue9
  t22 := Try.underlying47
  a22 := Try.isAgg47
  z22 := Try.sizeOf47
  v22 := Try.zeroValue47
  t23 := Try.underlying47
  a23 := Try.isAgg47
  z23 := Try.sizeOf47
  v23 := Try.zeroValue47
  t25 := Try.underlying2
  a25 := Try.isAgg2
  z25 := Try.sizeOf2
  v25 := Try.zeroValue2
  t32 := Try.underlying202
  a32 := Try.isAgg202
  z32 := Try.sizeOf202
  v32 := Try.zeroValue202
  t35 := Try.underlying241
  a35 := Try.isAgg241
  z35 := Try.sizeOf241
  v35 := Try.zeroValue241
  t36 := Try.underlying242
  a36 := Try.isAgg242
  z36 := Try.sizeOf242
  v36 := Try.zeroValue242
  t41 := Try.underlying196
  a41 := Try.isAgg196
  z41 := Try.sizeOf196
  v41 := Try.zeroValue196
  t44 := Try.underlying228
  a44 := Try.isAgg228
  z44 := Try.sizeOf228
  v44 := Try.zeroValue228
  t46 := Try.underlying231
  a46 := Try.isAgg231
  z46 := Try.sizeOf231
  v46 := Try.zeroValue231
  t53 := Try.underlying255
  a53 := Try.isAgg255
  z53 := Try.sizeOf255
  v53 := Try.zeroValue255
  t57 := Try.underlying259
  a57 := Try.isAgg259
  z57 := Try.sizeOf259
  v57 := Try.zeroValue259
  t63 := Try.underlying263
  a63 := Try.isAgg263
  z63 := Try.sizeOf263
  v63 := Try.zeroValue263
  t64 := Try.underlying264
  a64 := Try.isAgg264
  z64 := Try.sizeOf264
  v64 := Try.zeroValue264 }
open Go.Sort Go.RowKit in
theorem Try.slices_Sort_int (blk off cap : Nat) (zs : List Int) (w : World) (hH : Holds (Value.int .i64) w blk off zs.toArray) (hblk : blk < w.heap.size) (hsz : zs.length < 4611686018427387904) :
    Calls Try.prog 160 #[.slice (some ⟨blk, off, none⟩) zs.length cap] w fun e w' =>
      e = .returned (.tuple #[]) ∧ ∃ n os, w' = grow (putRow (Value.int .i64) (Sort.ahead w n) blk off (zs.mergeSort fun x y => decide (x ≤ y)).toArray) os := AnyM.slices_Sort_int Try.laysSlM5_f160 blk off cap zs w hH hblk hsz
open Go.RowKit Go.Sort in
/-- .. and plain. (LAID AT THE INSTANCE 'slices.Sort[[]int64,int64]': no walk: one application.) -/
theorem Try.slices_Sort_int_none (p : Option Addr) (cap : Nat) (w : World) :
    Calls Try.prog 160 #[.slice p 0 cap] w fun e w' => e = .returned (.tuple #[]) ∧ w' = w := AnyM.slices_Sort_int_none Try.laysSlM5_f160 p cap w
end Go.Proofs
