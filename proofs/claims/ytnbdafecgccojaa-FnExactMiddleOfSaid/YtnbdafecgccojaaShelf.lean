/-
  DERIVED: THE SHELF's CONTRACTS AT THIS DUMP, IN PLAIN WORDS (tools/lay-plain.mjs out of 'YtnbdafecgccojaaShelf.lean', which tools/lay-shelf.mjs wrote): THE SAME DECLARATIONS UNDER THE SAME NAMES: 'import', 'namespace', 'open', 'def', 'theorem' AND NOTHING ELSE: no command of the shelf's: FOR A HAND-IN. Each laying: the table of numbers ('.._ren') and one theorem, a field a fact of the dump's own or the kernel's comparison; each contract: ONE APPLICATION.
-/
import Derived.Shelf.SlSortCmp.WholeK
import Derived.Ground.SlsfProg
import Derived.Test.YtnbdafecgccojaaProg
namespace Go.Proofs
open Go.Shelf
def Try.sortF_ren : Go.Shelf.Ren := ⟨fun | 6 => 234 | 15 => 258 | 14 => 257 | 28 => 270 | 29 => 271 | 20 => 262 | 21 => 263 | 22 => 264 | 23 => 265 | 24 => 266 | 25 => 267 | 26 => 268 | 27 => 269 | 46 => 273 | 47 => 274 | 48 => 275 | 49 => 276 | 50 => 277 | 57 => 278 | n => n, fun | 22 => 35 | 24 => 30 | 25 => 234 | 3 => 3 | 39 => 225 | 0 => 0 | 53 => 248 | 55 => 251 | 4 => 4 | 46 => 264 | 45 => 263 | 50 => 268 | 5 => 5 | 9 => 9 | 66 => 273 | 70 => 277 | 76 => 279 | 77 => 280 | n => n, fun | n => n⟩
theorem Try.sortF : Go.Proofs.SlLaysF0.n6 Try.prog Try.sortF_ren := {
  mixed := by kernel_rfl
  f6 := ⟨Try.f234.name, by decide, Try.func234.trans (congrArg some (by kernel_rfl))⟩
  f14 := ⟨Try.f257.name, by decide, Try.func257.trans (congrArg some (by kernel_rfl))⟩
  f15 := Try.func258.trans (congrArg some (by kernel_rfl))
  f20 := ⟨Try.f262.name, by decide, Try.func262.trans (congrArg some (by kernel_rfl))⟩
  f21 := ⟨Try.f263.name, by decide, Try.func263.trans (congrArg some (by kernel_rfl))⟩
  f22 := ⟨Try.f264.name, by decide, Try.func264.trans (congrArg some (by kernel_rfl))⟩
  f23 := ⟨Try.f265.name, by decide, Try.func265.trans (congrArg some (by kernel_rfl))⟩
  f24 := ⟨Try.f266.name, by decide, Try.func266.trans (congrArg some (by kernel_rfl))⟩
  f25 := ⟨Try.f267.name, by decide, Try.func267.trans (congrArg some (by kernel_rfl))⟩
  f26 := ⟨Try.f268.name, by decide, Try.func268.trans (congrArg some (by kernel_rfl))⟩
  f27 := ⟨Try.f269.name, by decide, Try.func269.trans (congrArg some (by kernel_rfl))⟩
  f28 := Try.func270.trans (congrArg some (by kernel_rfl))
  f29 := Try.func271.trans (congrArg some (by kernel_rfl))
  f46 := ⟨Try.f273.name, by decide, Try.func273.trans (congrArg some (by kernel_rfl))⟩
  f47 := Try.func274.trans (congrArg some (by kernel_rfl))
  f48 := Try.func275.trans (congrArg some (by kernel_rfl))
  f49 := ⟨Try.f276.name, by decide, Try.func276.trans (congrArg some (by kernel_rfl))⟩
  f50 := ⟨Try.f277.name, by decide, Try.func277.trans (congrArg some (by kernel_rfl))⟩
  f57 := ⟨Try.f278.name, by decide, Try.func278.trans (congrArg some (by kernel_rfl))⟩
  t0 := Try.underlying0
  a0 := Try.isAgg0
  z0 := Try.sizeOf0
  v0 := Try.zeroValue0
  t3 := Try.underlying3
  a3 := Try.isAgg3
  z3 := Try.sizeOf3
  v3 := Try.zeroValue3
  t4 := Try.underlying4
  a4 := Try.isAgg4
  z4 := Try.sizeOf4
  v4 := Try.zeroValue4
  t5 := Try.underlying5
  a5 := Try.isAgg5
  z5 := Try.sizeOf5
  v5 := Try.zeroValue5
  t9 := Try.underlying9
  a9 := Try.isAgg9
  z9 := Try.sizeOf9
  v9 := Try.zeroValue9
  t22 := Try.underlying35
  a22 := Try.isAgg35
  z22 := Try.sizeOf35
  v22 := Try.zeroValue35
  t25 := Try.underlying234
  a25 := Try.isAgg234
  z25 := Try.sizeOf234
  v25 := Try.zeroValue234
  t39 := Try.underlying225
  a39 := Try.isAgg225
  z39 := Try.sizeOf225
  v39 := Try.zeroValue225
  t45 := Try.underlying263
  a45 := Try.isAgg263
  z45 := Try.sizeOf263
  v45 := Try.zeroValue263
  t46 := Try.underlying264
  a46 := Try.isAgg264
  z46 := Try.sizeOf264
  v46 := Try.zeroValue264
  t50 := Try.underlying268
  a50 := Try.isAgg268
  z50 := Try.sizeOf268
  v50 := Try.zeroValue268
  t53 := Try.underlying248
  a53 := Try.isAgg248
  z53 := Try.sizeOf248
  v53 := Try.zeroValue248
  t55 := Try.underlying251
  a55 := Try.isAgg251
  z55 := Try.sizeOf251
  v55 := Try.zeroValue251
  t66 := Try.underlying273
  a66 := Try.isAgg273
  z66 := Try.sizeOf273
  v66 := Try.zeroValue273
  t70 := Try.underlying277
  a70 := Try.isAgg277
  z70 := Try.sizeOf277
  v70 := Try.zeroValue277
  t76 := Try.underlying279
  a76 := Try.isAgg279
  z76 := Try.sizeOf279
  v76 := Try.zeroValue279
  t77 := Try.underlying280
  a77 := Try.isAgg280
  z77 := Try.sizeOf280
  v77 := Try.zeroValue280 }
end Go.Proofs
