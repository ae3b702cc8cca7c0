/-
  No cell of these rows narrows 'for every input' (looked for: loops, veiled, ifaces, maps, wideKeys, modest, calm, conditions, laid).
  DERIVED. THE GIVEN ROWS OF THIS SEAT. 7 by the template 'for every input the law returns true; each argument reads behind the call as it read before'; 0 by the template 'total and deterministic' (their statements: YtjcebojmfoppaaaTotals.lean).
  GIVEN WITH THE SEED: the statements are not yours to turn. If you find one false, say at which input.
  Laid BY PROGRAM, IN A SANDBOX (cutbox-rows.mjs): the forced cells as the released guide's own fill.sh prints them over the translation 6d40b3825d91756c… (all of the seat's roots in one cut). By AI agents, Wed Nov 11 2026. No macro, syntax, notation, axiom, sorry.
-/
import Derived.Test.YtjcebojmfoppaaaChecked
import GoSem.Claim
import GoSem.ClaimJoined
import GoSem.ClaimMapViews
import Derived.JoinedTies
import Derived.KernelRfl
namespace Go.Proofs.Ytjcebojmfoppaaa
/- THE CELL 'sum', in the pinned program and in every row, IS THE sha256 OF THE DUMP (.gsa) THAT YtjcebojmfoppaaaProg.lean LOADS. Nothing in Lean hashes anything: it is a label: what it is worth is what the hold of that sum in a sandbox is worth. -/
noncomputable def Try.pinned : Pinned := { name := "ytjcebojmfoppaaa", sum := "6d40b3825d91756c270eb4cdad52c236a94c8c0a5b24edbb95f2f9e7d639fc9c", checked := Try.checked }
namespace Rows
def none {H : Type} : Left H := { results := [], args := [] }

/-- 'laws.FnExactValidVernier': WHATEVER THE INPUT: true; the input reads as it did. -/
def fnExactValidVernierSpec : ChangeSpec := { name := "fnExactValidVernier", fn := fun _ => fun
  | [d] => { results := [.lit (.bool true)], args := [d] }
  | _ => none }
def fnExactValidVernierRow : OpenClaim := { program := "ytjcebojmfoppaaa", sum := "6d40b3825d91756c270eb4cdad52c236a94c8c0a5b24edbb95f2f9e7d639fc9c", func := "loop.example/g01254/laws.FnExactValidVernier", spec := "fnExactValidVernier", apart := false }
def FnExactValidVernierSaid : Prop := fnExactValidVernierRow.holds Try.pinned (OpenSpec.ofChange fnExactValidVernierSpec)

/-- ITS FALSE NEIGHBOUR: 'it returns false'. Refute it at one input. -/
def fnExactValidVernierWrong : ChangeSpec := { name := "fnExactValidVernier", fn := fun _ => fun
  | [d] => { results := [.lit (.bool false)], args := [d] }
  | _ => none }
def FnExactValidVernierWrongFalsely : Prop := fnExactValidVernierRow.holds Try.pinned (OpenSpec.ofChange fnExactValidVernierWrong)

/-- 'laws.FnExactValidScrew': WHATEVER THE INPUT: true; the input reads as it did. -/
def fnExactValidScrewSpec : ChangeSpec := { name := "fnExactValidScrew", fn := fun _ => fun
  | [d] => { results := [.lit (.bool true)], args := [d] }
  | _ => none }
def fnExactValidScrewRow : OpenClaim := { program := "ytjcebojmfoppaaa", sum := "6d40b3825d91756c270eb4cdad52c236a94c8c0a5b24edbb95f2f9e7d639fc9c", func := "loop.example/g01254/laws.FnExactValidScrew", spec := "fnExactValidScrew", apart := false }
def FnExactValidScrewSaid : Prop := fnExactValidScrewRow.holds Try.pinned (OpenSpec.ofChange fnExactValidScrewSpec)

/-- ITS FALSE NEIGHBOUR: 'it returns false'. Refute it at one input. -/
def fnExactValidScrewWrong : ChangeSpec := { name := "fnExactValidScrew", fn := fun _ => fun
  | [d] => { results := [.lit (.bool false)], args := [d] }
  | _ => none }
def FnExactValidScrewWrongFalsely : Prop := fnExactValidScrewRow.holds Try.pinned (OpenSpec.ofChange fnExactValidScrewWrong)

/-- 'laws.FnExactValidSpindle': WHATEVER THE INPUT: true; the input reads as it did. -/
def fnExactValidSpindleSpec : ChangeSpec := { name := "fnExactValidSpindle", fn := fun _ => fun
  | [d1, d2] => { results := [.lit (.bool true)], args := [d1, d2] }
  | _ => none }
def fnExactValidSpindleRow : OpenClaim := { program := "ytjcebojmfoppaaa", sum := "6d40b3825d91756c270eb4cdad52c236a94c8c0a5b24edbb95f2f9e7d639fc9c", func := "loop.example/g01254/laws.FnExactValidSpindle", spec := "fnExactValidSpindle", unfollowed := true, recurses := true, apart := false }
def FnExactValidSpindleSaid : Prop := fnExactValidSpindleRow.holds Try.pinned (OpenSpec.ofChange fnExactValidSpindleSpec)

/-- ITS FALSE NEIGHBOUR: 'it returns false'. Refute it at one input. -/
def fnExactValidSpindleWrong : ChangeSpec := { name := "fnExactValidSpindle", fn := fun _ => fun
  | [d1, d2] => { results := [.lit (.bool false)], args := [d1, d2] }
  | _ => none }
def FnExactValidSpindleWrongFalsely : Prop := fnExactValidSpindleRow.holds Try.pinned (OpenSpec.ofChange fnExactValidSpindleWrong)

/-- 'laws.FnExactTurnSpindle': WHATEVER THE INPUT: true; the input reads as it did. -/
def fnExactTurnSpindleSpec : ChangeSpec := { name := "fnExactTurnSpindle", fn := fun _ => fun
  | [d1, d2, d3] => { results := [.lit (.bool true)], args := [d1, d2, d3] }
  | _ => none }
def fnExactTurnSpindleRow : OpenClaim := { program := "ytjcebojmfoppaaa", sum := "6d40b3825d91756c270eb4cdad52c236a94c8c0a5b24edbb95f2f9e7d639fc9c", func := "loop.example/g01254/laws.FnExactTurnSpindle", spec := "fnExactTurnSpindle", unfollowed := true, recurses := true, apart := false }
def FnExactTurnSpindleSaid : Prop := fnExactTurnSpindleRow.holds Try.pinned (OpenSpec.ofChange fnExactTurnSpindleSpec)

/-- ITS FALSE NEIGHBOUR: 'it returns false'. Refute it at one input. -/
def fnExactTurnSpindleWrong : ChangeSpec := { name := "fnExactTurnSpindle", fn := fun _ => fun
  | [d1, d2, d3] => { results := [.lit (.bool false)], args := [d1, d2, d3] }
  | _ => none }
def FnExactTurnSpindleWrongFalsely : Prop := fnExactTurnSpindleRow.holds Try.pinned (OpenSpec.ofChange fnExactTurnSpindleWrong)

/-- 'laws.FnExactReadSpindle': WHATEVER THE INPUT: true; the input reads as it did. -/
def fnExactReadSpindleSpec : ChangeSpec := { name := "fnExactReadSpindle", fn := fun _ => fun
  | [d1, d2] => { results := [.lit (.bool true)], args := [d1, d2] }
  | _ => none }
def fnExactReadSpindleRow : OpenClaim := { program := "ytjcebojmfoppaaa", sum := "6d40b3825d91756c270eb4cdad52c236a94c8c0a5b24edbb95f2f9e7d639fc9c", func := "loop.example/g01254/laws.FnExactReadSpindle", spec := "fnExactReadSpindle", unfollowed := true, recurses := true, apart := false }
def FnExactReadSpindleSaid : Prop := fnExactReadSpindleRow.holds Try.pinned (OpenSpec.ofChange fnExactReadSpindleSpec)

/-- ITS FALSE NEIGHBOUR: 'it returns false'. Refute it at one input. -/
def fnExactReadSpindleWrong : ChangeSpec := { name := "fnExactReadSpindle", fn := fun _ => fun
  | [d1, d2] => { results := [.lit (.bool false)], args := [d1, d2] }
  | _ => none }
def FnExactReadSpindleWrongFalsely : Prop := fnExactReadSpindleRow.holds Try.pinned (OpenSpec.ofChange fnExactReadSpindleWrong)

/-- 'laws.FnExactTurnTo': WHATEVER THE INPUT: true; the input reads as it did. -/
def fnExactTurnToSpec : ChangeSpec := { name := "fnExactTurnTo", fn := fun _ => fun
  | [d1, d2, d3, d4] => { results := [.lit (.bool true)], args := [d1, d2, d3, d4] }
  | _ => none }
def fnExactTurnToRow : OpenClaim := { program := "ytjcebojmfoppaaa", sum := "6d40b3825d91756c270eb4cdad52c236a94c8c0a5b24edbb95f2f9e7d639fc9c", func := "loop.example/g01254/laws.FnExactTurnTo", spec := "fnExactTurnTo", unfollowed := true, recurses := true, apart := false }
def FnExactTurnToSaid : Prop := fnExactTurnToRow.holds Try.pinned (OpenSpec.ofChange fnExactTurnToSpec)

/-- ITS FALSE NEIGHBOUR: 'it returns false'. Refute it at one input. -/
def fnExactTurnToWrong : ChangeSpec := { name := "fnExactTurnTo", fn := fun _ => fun
  | [d1, d2, d3, d4] => { results := [.lit (.bool false)], args := [d1, d2, d3, d4] }
  | _ => none }
def FnExactTurnToWrongFalsely : Prop := fnExactTurnToRow.holds Try.pinned (OpenSpec.ofChange fnExactTurnToWrong)

/-- 'laws.FnExactPlayFound': WHATEVER THE INPUT: true; the input reads as it did. -/
def fnExactPlayFoundSpec : ChangeSpec := { name := "fnExactPlayFound", fn := fun _ => fun
  | [d1, d2, d3] => { results := [.lit (.bool true)], args := [d1, d2, d3] }
  | _ => none }
def fnExactPlayFoundRow : OpenClaim := { program := "ytjcebojmfoppaaa", sum := "6d40b3825d91756c270eb4cdad52c236a94c8c0a5b24edbb95f2f9e7d639fc9c", func := "loop.example/g01254/laws.FnExactPlayFound", spec := "fnExactPlayFound", unfollowed := true, recurses := true, apart := false }
def FnExactPlayFoundSaid : Prop := fnExactPlayFoundRow.holds Try.pinned (OpenSpec.ofChange fnExactPlayFoundSpec)

/-- ITS FALSE NEIGHBOUR: 'it returns false'. Refute it at one input. -/
def fnExactPlayFoundWrong : ChangeSpec := { name := "fnExactPlayFound", fn := fun _ => fun
  | [d1, d2, d3] => { results := [.lit (.bool false)], args := [d1, d2, d3] }
  | _ => none }
def FnExactPlayFoundWrongFalsely : Prop := fnExactPlayFoundRow.holds Try.pinned (OpenSpec.ofChange fnExactPlayFoundWrong)

/- THE SECOND FORM. 'bulk': how many values and letters a reading holds, each counted each time it is reached (what is shared counts as often as it is met; a slice's spare places count too). A statement '..UptoSaid' is the law's where the arguments, and the package variables that the reading takes, are together of bulk at most 1048576: NARROWER than '..Said'. Prove '..Said' where nothing that the law and all that it calls make is longer than what came in: it says more and counts as full. Else prove '..UptoSaid'. A law counts once. -/
mutual
def uptoBulk {H : Type} : DataW H → Nat
  | .lit (.string bytes) => bytes.length + 1
  | .lit _ => 1
  | .nil => 1
  | .ptr d => uptoBulk d + 1
  | .slice elems spare => uptoBulkAll elems + uptoBulkAll spare + 1
  | .agg parts => uptoBulkAll parts + 1
  | .iface _ d => uptoBulk d + 1
  | .map entries => uptoBulkEntries entries + 1
  | .held _ => 1
def uptoBulkAll {H : Type} : List (DataW H) → Nat
  | [] => 0
  | d :: r => uptoBulk d + uptoBulkAll r
def uptoBulkEntries {H : Type} : List (Lit × DataW H) → Nat
  | [] => 0
  | x :: r => uptoBulkEntry x + uptoBulkEntries r
def uptoBulkEntry {H : Type} : Lit × DataW H → Nat
  | (.string bytes, d) => bytes.length + uptoBulk d + 1
  | (_, d) => uptoBulk d + 1
 end
def uptoSmall : (H : Type) → List (DataW H) → Bool := fun _ ds => decide (uptoBulkAll ds ≤ 1048576)
def OpenSpec.upto (s : _root_.Go.ChangeSpec) : _root_.Go.OpenSpec := { _root_.Go.OpenSpec.ofChange s with cond := some uptoSmall }

/-- 'laws.FnExactValidVernier', WHERE WHAT IT READS IS OF BULK AT MOST 1048576: true; the input reads as it did. -/
def fnExactValidVernierUptoRow : OpenClaim := { program := "ytjcebojmfoppaaa", sum := "6d40b3825d91756c270eb4cdad52c236a94c8c0a5b24edbb95f2f9e7d639fc9c", func := "loop.example/g01254/laws.FnExactValidVernier", spec := "fnExactValidVernier", apart := false, narrowed := true }
def FnExactValidVernierUptoSaid : Prop := fnExactValidVernierUptoRow.holds Try.pinned (OpenSpec.upto fnExactValidVernierSpec)

/-- 'laws.FnExactValidScrew', WHERE WHAT IT READS IS OF BULK AT MOST 1048576: true; the input reads as it did. -/
def fnExactValidScrewUptoRow : OpenClaim := { program := "ytjcebojmfoppaaa", sum := "6d40b3825d91756c270eb4cdad52c236a94c8c0a5b24edbb95f2f9e7d639fc9c", func := "loop.example/g01254/laws.FnExactValidScrew", spec := "fnExactValidScrew", apart := false, narrowed := true }
def FnExactValidScrewUptoSaid : Prop := fnExactValidScrewUptoRow.holds Try.pinned (OpenSpec.upto fnExactValidScrewSpec)

/-- 'laws.FnExactValidSpindle', WHERE WHAT IT READS IS OF BULK AT MOST 1048576: true; the input reads as it did. -/
def fnExactValidSpindleUptoRow : OpenClaim := { program := "ytjcebojmfoppaaa", sum := "6d40b3825d91756c270eb4cdad52c236a94c8c0a5b24edbb95f2f9e7d639fc9c", func := "loop.example/g01254/laws.FnExactValidSpindle", spec := "fnExactValidSpindle", unfollowed := true, recurses := true, apart := false, narrowed := true }
def FnExactValidSpindleUptoSaid : Prop := fnExactValidSpindleUptoRow.holds Try.pinned (OpenSpec.upto fnExactValidSpindleSpec)

/-- 'laws.FnExactTurnSpindle', WHERE WHAT IT READS IS OF BULK AT MOST 1048576: true; the input reads as it did. -/
def fnExactTurnSpindleUptoRow : OpenClaim := { program := "ytjcebojmfoppaaa", sum := "6d40b3825d91756c270eb4cdad52c236a94c8c0a5b24edbb95f2f9e7d639fc9c", func := "loop.example/g01254/laws.FnExactTurnSpindle", spec := "fnExactTurnSpindle", unfollowed := true, recurses := true, apart := false, narrowed := true }
def FnExactTurnSpindleUptoSaid : Prop := fnExactTurnSpindleUptoRow.holds Try.pinned (OpenSpec.upto fnExactTurnSpindleSpec)

/-- 'laws.FnExactReadSpindle', WHERE WHAT IT READS IS OF BULK AT MOST 1048576: true; the input reads as it did. -/
def fnExactReadSpindleUptoRow : OpenClaim := { program := "ytjcebojmfoppaaa", sum := "6d40b3825d91756c270eb4cdad52c236a94c8c0a5b24edbb95f2f9e7d639fc9c", func := "loop.example/g01254/laws.FnExactReadSpindle", spec := "fnExactReadSpindle", unfollowed := true, recurses := true, apart := false, narrowed := true }
def FnExactReadSpindleUptoSaid : Prop := fnExactReadSpindleUptoRow.holds Try.pinned (OpenSpec.upto fnExactReadSpindleSpec)

/-- 'laws.FnExactTurnTo', WHERE WHAT IT READS IS OF BULK AT MOST 1048576: true; the input reads as it did. -/
def fnExactTurnToUptoRow : OpenClaim := { program := "ytjcebojmfoppaaa", sum := "6d40b3825d91756c270eb4cdad52c236a94c8c0a5b24edbb95f2f9e7d639fc9c", func := "loop.example/g01254/laws.FnExactTurnTo", spec := "fnExactTurnTo", unfollowed := true, recurses := true, apart := false, narrowed := true }
def FnExactTurnToUptoSaid : Prop := fnExactTurnToUptoRow.holds Try.pinned (OpenSpec.upto fnExactTurnToSpec)

/-- 'laws.FnExactPlayFound', WHERE WHAT IT READS IS OF BULK AT MOST 1048576: true; the input reads as it did. -/
def fnExactPlayFoundUptoRow : OpenClaim := { program := "ytjcebojmfoppaaa", sum := "6d40b3825d91756c270eb4cdad52c236a94c8c0a5b24edbb95f2f9e7d639fc9c", func := "loop.example/g01254/laws.FnExactPlayFound", spec := "fnExactPlayFound", unfollowed := true, recurses := true, apart := false, narrowed := true }
def FnExactPlayFoundUptoSaid : Prop := fnExactPlayFoundUptoRow.holds Try.pinned (OpenSpec.upto fnExactPlayFoundSpec)

end Rows
end Go.Proofs.Ytjcebojmfoppaaa
