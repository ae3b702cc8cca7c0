/-
  No cell of these rows narrows 'for every input' (looked for: loops, veiled, ifaces, maps, wideKeys, modest, calm, conditions, laid).
  DERIVED. THE GIVEN ROWS OF THIS SEAT. 9 by the template 'for every input the law returns true; each argument reads behind the call as it read before'; 0 by the template 'total and deterministic' (their statements: YtjhlpaeenjbljaaTotals.lean).
  GIVEN WITH THE SEED: the statements are not yours to turn. If you find one false, say at which input.
  Laid BY PROGRAM, IN A SANDBOX (cutbox-rows.mjs): the forced cells as the released guide's own fill.sh prints them over the translation ffbf30dd9bf5c21c… (all of the seat's roots in one cut). By AI agents, Wed Nov 11 2026. No macro, syntax, notation, axiom, sorry.
-/
import Derived.Test.YtjhlpaeenjbljaaChecked
import GoSem.Claim
import GoSem.ClaimJoined
import GoSem.ClaimMapViews
import Derived.JoinedTies
import Derived.KernelRfl
namespace Go.Proofs.Ytjhlpaeenjbljaa
/- THE CELL 'sum', in the pinned program and in every row, IS THE sha256 OF THE DUMP (.gsa) THAT YtjhlpaeenjbljaaProg.lean LOADS. Nothing in Lean hashes anything: it is a label: what it is worth is what the hold of that sum in a sandbox is worth. -/
noncomputable def Try.pinned : Pinned := { name := "ytjhlpaeenjbljaa", sum := "ffbf30dd9bf5c21c05890c34f016e2cb283f216005f2bc528bd96306973e2824", checked := Try.checked }
namespace Rows
def none {H : Type} : Left H := { results := [], args := [] }

/-- 'laws.FnExactEvenScale': WHATEVER THE INPUT: true; the input reads as it did. -/
def fnExactEvenScaleSpec : ChangeSpec := { name := "fnExactEvenScale", fn := fun _ => fun
  | [d1, d2] => { results := [.lit (.bool true)], args := [d1, d2] }
  | _ => none }
def fnExactEvenScaleRow : OpenClaim := { program := "ytjhlpaeenjbljaa", sum := "ffbf30dd9bf5c21c05890c34f016e2cb283f216005f2bc528bd96306973e2824", func := "loop.example/g01254/laws.FnExactEvenScale", spec := "fnExactEvenScale", unfollowed := true, recurses := true, apart := false }
def FnExactEvenScaleSaid : Prop := fnExactEvenScaleRow.holds Try.pinned (OpenSpec.ofChange fnExactEvenScaleSpec)

/-- ITS FALSE NEIGHBOUR: 'it returns false'. Refute it at one input. -/
def fnExactEvenScaleWrong : ChangeSpec := { name := "fnExactEvenScale", fn := fun _ => fun
  | [d1, d2] => { results := [.lit (.bool false)], args := [d1, d2] }
  | _ => none }
def FnExactEvenScaleWrongFalsely : Prop := fnExactEvenScaleRow.holds Try.pinned (OpenSpec.ofChange fnExactEvenScaleWrong)

/-- 'laws.FnExactWarmScale': WHATEVER THE INPUT: true; the input reads as it did. -/
def fnExactWarmScaleSpec : ChangeSpec := { name := "fnExactWarmScale", fn := fun _ => fun
  | [d1, d2] => { results := [.lit (.bool true)], args := [d1, d2] }
  | _ => none }
def fnExactWarmScaleRow : OpenClaim := { program := "ytjhlpaeenjbljaa", sum := "ffbf30dd9bf5c21c05890c34f016e2cb283f216005f2bc528bd96306973e2824", func := "loop.example/g01254/laws.FnExactWarmScale", spec := "fnExactWarmScale", unfollowed := true, recurses := true, apart := false }
def FnExactWarmScaleSaid : Prop := fnExactWarmScaleRow.holds Try.pinned (OpenSpec.ofChange fnExactWarmScaleSpec)

/-- ITS FALSE NEIGHBOUR: 'it returns false'. Refute it at one input. -/
def fnExactWarmScaleWrong : ChangeSpec := { name := "fnExactWarmScale", fn := fun _ => fun
  | [d1, d2] => { results := [.lit (.bool false)], args := [d1, d2] }
  | _ => none }
def FnExactWarmScaleWrongFalsely : Prop := fnExactWarmScaleRow.holds Try.pinned (OpenSpec.ofChange fnExactWarmScaleWrong)

/-- 'laws.FnExactResidualsOf': WHATEVER THE INPUT: true; the input reads as it did. -/
def fnExactResidualsOfSpec : ChangeSpec := { name := "fnExactResidualsOf", fn := fun _ => fun
  | [d1, d2] => { results := [.lit (.bool true)], args := [d1, d2] }
  | _ => none }
def fnExactResidualsOfRow : OpenClaim := { program := "ytjhlpaeenjbljaa", sum := "ffbf30dd9bf5c21c05890c34f016e2cb283f216005f2bc528bd96306973e2824", func := "loop.example/g01254/laws.FnExactResidualsOf", spec := "fnExactResidualsOf", unfollowed := true, recurses := true, apart := false }
def FnExactResidualsOfSaid : Prop := fnExactResidualsOfRow.holds Try.pinned (OpenSpec.ofChange fnExactResidualsOfSpec)

/-- ITS FALSE NEIGHBOUR: 'it returns false'. Refute it at one input. -/
def fnExactResidualsOfWrong : ChangeSpec := { name := "fnExactResidualsOf", fn := fun _ => fun
  | [d1, d2] => { results := [.lit (.bool false)], args := [d1, d2] }
  | _ => none }
def FnExactResidualsOfWrongFalsely : Prop := fnExactResidualsOfRow.holds Try.pinned (OpenSpec.ofChange fnExactResidualsOfWrong)

/-- 'laws.FnExactSquaresOf': WHATEVER THE INPUT: true; the input reads as it did. -/
def fnExactSquaresOfSpec : ChangeSpec := { name := "fnExactSquaresOf", fn := fun _ => fun
  | [d1, d2] => { results := [.lit (.bool true)], args := [d1, d2] }
  | _ => none }
def fnExactSquaresOfRow : OpenClaim := { program := "ytjhlpaeenjbljaa", sum := "ffbf30dd9bf5c21c05890c34f016e2cb283f216005f2bc528bd96306973e2824", func := "loop.example/g01254/laws.FnExactSquaresOf", spec := "fnExactSquaresOf", unfollowed := true, recurses := true, apart := false }
def FnExactSquaresOfSaid : Prop := fnExactSquaresOfRow.holds Try.pinned (OpenSpec.ofChange fnExactSquaresOfSpec)

/-- ITS FALSE NEIGHBOUR: 'it returns false'. Refute it at one input. -/
def fnExactSquaresOfWrong : ChangeSpec := { name := "fnExactSquaresOf", fn := fun _ => fun
  | [d1, d2] => { results := [.lit (.bool false)], args := [d1, d2] }
  | _ => none }
def FnExactSquaresOfWrongFalsely : Prop := fnExactSquaresOfRow.holds Try.pinned (OpenSpec.ofChange fnExactSquaresOfWrong)

/-- 'laws.FnExactWorstObs': WHATEVER THE INPUT: true; the input reads as it did. -/
def fnExactWorstObsSpec : ChangeSpec := { name := "fnExactWorstObs", fn := fun _ => fun
  | [d1, d2] => { results := [.lit (.bool true)], args := [d1, d2] }
  | _ => none }
def fnExactWorstObsRow : OpenClaim := { program := "ytjhlpaeenjbljaa", sum := "ffbf30dd9bf5c21c05890c34f016e2cb283f216005f2bc528bd96306973e2824", func := "loop.example/g01254/laws.FnExactWorstObs", spec := "fnExactWorstObs", unfollowed := true, recurses := true, apart := false }
def FnExactWorstObsSaid : Prop := fnExactWorstObsRow.holds Try.pinned (OpenSpec.ofChange fnExactWorstObsSpec)

/-- ITS FALSE NEIGHBOUR: 'it returns false'. Refute it at one input. -/
def fnExactWorstObsWrong : ChangeSpec := { name := "fnExactWorstObs", fn := fun _ => fun
  | [d1, d2] => { results := [.lit (.bool false)], args := [d1, d2] }
  | _ => none }
def FnExactWorstObsWrongFalsely : Prop := fnExactWorstObsRow.holds Try.pinned (OpenSpec.ofChange fnExactWorstObsWrong)

/-- 'laws.FnExactWithoutObs': WHATEVER THE INPUT: true; the input reads as it did. -/
def fnExactWithoutObsSpec : ChangeSpec := { name := "fnExactWithoutObs", fn := fun _ => fun
  | [d1, d2] => { results := [.lit (.bool true)], args := [d1, d2] }
  | _ => none }
def fnExactWithoutObsRow : OpenClaim := { program := "ytjhlpaeenjbljaa", sum := "ffbf30dd9bf5c21c05890c34f016e2cb283f216005f2bc528bd96306973e2824", func := "loop.example/g01254/laws.FnExactWithoutObs", spec := "fnExactWithoutObs", unfollowed := true, recurses := true, apart := false }
def FnExactWithoutObsSaid : Prop := fnExactWithoutObsRow.holds Try.pinned (OpenSpec.ofChange fnExactWithoutObsSpec)

/-- ITS FALSE NEIGHBOUR: 'it returns false'. Refute it at one input. -/
def fnExactWithoutObsWrong : ChangeSpec := { name := "fnExactWithoutObs", fn := fun _ => fun
  | [d1, d2] => { results := [.lit (.bool false)], args := [d1, d2] }
  | _ => none }
def FnExactWithoutObsWrongFalsely : Prop := fnExactWithoutObsRow.holds Try.pinned (OpenSpec.ofChange fnExactWithoutObsWrong)

/-- 'laws.FnExactPairTable': WHATEVER THE INPUT: true; the input reads as it did. -/
def fnExactPairTableSpec : ChangeSpec := { name := "fnExactPairTable", fn := fun _ => fun
  | [d] => { results := [.lit (.bool true)], args := [d] }
  | _ => none }
def fnExactPairTableRow : OpenClaim := { program := "ytjhlpaeenjbljaa", sum := "ffbf30dd9bf5c21c05890c34f016e2cb283f216005f2bc528bd96306973e2824", func := "loop.example/g01254/laws.FnExactPairTable", spec := "fnExactPairTable", unfollowed := true, recurses := true, apart := false }
def FnExactPairTableSaid : Prop := fnExactPairTableRow.holds Try.pinned (OpenSpec.ofChange fnExactPairTableSpec)

/-- ITS FALSE NEIGHBOUR: 'it returns false'. Refute it at one input. -/
def fnExactPairTableWrong : ChangeSpec := { name := "fnExactPairTable", fn := fun _ => fun
  | [d] => { results := [.lit (.bool false)], args := [d] }
  | _ => none }
def FnExactPairTableWrongFalsely : Prop := fnExactPairTableRow.holds Try.pinned (OpenSpec.ofChange fnExactPairTableWrong)

/-- 'laws.FnExactIsLeast': WHATEVER THE INPUT: true; the input reads as it did. -/
def fnExactIsLeastSpec : ChangeSpec := { name := "fnExactIsLeast", fn := fun _ => fun
  | [d1, d2] => { results := [.lit (.bool true)], args := [d1, d2] }
  | _ => none }
def fnExactIsLeastRow : OpenClaim := { program := "ytjhlpaeenjbljaa", sum := "ffbf30dd9bf5c21c05890c34f016e2cb283f216005f2bc528bd96306973e2824", func := "loop.example/g01254/laws.FnExactIsLeast", spec := "fnExactIsLeast", unfollowed := true, recurses := true, apart := false }
def FnExactIsLeastSaid : Prop := fnExactIsLeastRow.holds Try.pinned (OpenSpec.ofChange fnExactIsLeastSpec)

/-- ITS FALSE NEIGHBOUR: 'it returns false'. Refute it at one input. -/
def fnExactIsLeastWrong : ChangeSpec := { name := "fnExactIsLeast", fn := fun _ => fun
  | [d1, d2] => { results := [.lit (.bool false)], args := [d1, d2] }
  | _ => none }
def FnExactIsLeastWrongFalsely : Prop := fnExactIsLeastRow.holds Try.pinned (OpenSpec.ofChange fnExactIsLeastWrong)

/-- 'laws.FnExactNormalOf': WHATEVER THE INPUT: true; the input reads as it did. -/
def fnExactNormalOfSpec : ChangeSpec := { name := "fnExactNormalOf", fn := fun _ => fun
  | [d] => { results := [.lit (.bool true)], args := [d] }
  | _ => none }
def fnExactNormalOfRow : OpenClaim := { program := "ytjhlpaeenjbljaa", sum := "ffbf30dd9bf5c21c05890c34f016e2cb283f216005f2bc528bd96306973e2824", func := "loop.example/g01254/laws.FnExactNormalOf", spec := "fnExactNormalOf", unfollowed := true, recurses := true, apart := false }
def FnExactNormalOfSaid : Prop := fnExactNormalOfRow.holds Try.pinned (OpenSpec.ofChange fnExactNormalOfSpec)

/-- ITS FALSE NEIGHBOUR: 'it returns false'. Refute it at one input. -/
def fnExactNormalOfWrong : ChangeSpec := { name := "fnExactNormalOf", fn := fun _ => fun
  | [d] => { results := [.lit (.bool false)], args := [d] }
  | _ => none }
def FnExactNormalOfWrongFalsely : Prop := fnExactNormalOfRow.holds Try.pinned (OpenSpec.ofChange fnExactNormalOfWrong)

/- THE SECOND FORM. 'bulk': how many values and letters a reading holds, each counted each time it is reached (what is shared counts as often as it is met; a slice's spare places count too). A statement '..UptoSaid' is the law's where the arguments, and the package variables that the reading takes, are together of bulk at most 1048576: NARROWER than '..Said'. Prove '..Said' where nothing that the law and all that it calls make is longer than what came in: it says more and counts as full. Else prove '..UptoSaid'. A law counts once. -/
mutual
def uptoBulk {H : Type} : DataW H → Nat
  | .lit (.string bytes) => bytes.length + 1
  | .lit _ => 1
  | .nil => 1
  | .ptr d => uptoBulk d + 1
  | .slice elems spare => uptoBulkAll elems + uptoBulkAll spare + 1
  | .agg parts => uptoBulkAll parts + 1
  | .iface _ d => uptoBulk d + 1
  | .map entries => uptoBulkEntries entries + 1
  | .held _ => 1
def uptoBulkAll {H : Type} : List (DataW H) → Nat
  | [] => 0
  | d :: r => uptoBulk d + uptoBulkAll r
def uptoBulkEntries {H : Type} : List (Lit × DataW H) → Nat
  | [] => 0
  | x :: r => uptoBulkEntry x + uptoBulkEntries r
def uptoBulkEntry {H : Type} : Lit × DataW H → Nat
  | (.string bytes, d) => bytes.length + uptoBulk d + 1
  | (_, d) => uptoBulk d + 1
 end
def uptoSmall : (H : Type) → List (DataW H) → Bool := fun _ ds => decide (uptoBulkAll ds ≤ 1048576)
def OpenSpec.upto (s : _root_.Go.ChangeSpec) : _root_.Go.OpenSpec := { _root_.Go.OpenSpec.ofChange s with cond := some uptoSmall }

/-- 'laws.FnExactEvenScale', WHERE WHAT IT READS IS OF BULK AT MOST 1048576: true; the input reads as it did. -/
def fnExactEvenScaleUptoRow : OpenClaim := { program := "ytjhlpaeenjbljaa", sum := "ffbf30dd9bf5c21c05890c34f016e2cb283f216005f2bc528bd96306973e2824", func := "loop.example/g01254/laws.FnExactEvenScale", spec := "fnExactEvenScale", unfollowed := true, recurses := true, apart := false, narrowed := true }
def FnExactEvenScaleUptoSaid : Prop := fnExactEvenScaleUptoRow.holds Try.pinned (OpenSpec.upto fnExactEvenScaleSpec)

/-- 'laws.FnExactWarmScale', WHERE WHAT IT READS IS OF BULK AT MOST 1048576: true; the input reads as it did. -/
def fnExactWarmScaleUptoRow : OpenClaim := { program := "ytjhlpaeenjbljaa", sum := "ffbf30dd9bf5c21c05890c34f016e2cb283f216005f2bc528bd96306973e2824", func := "loop.example/g01254/laws.FnExactWarmScale", spec := "fnExactWarmScale", unfollowed := true, recurses := true, apart := false, narrowed := true }
def FnExactWarmScaleUptoSaid : Prop := fnExactWarmScaleUptoRow.holds Try.pinned (OpenSpec.upto fnExactWarmScaleSpec)

/-- 'laws.FnExactResidualsOf', WHERE WHAT IT READS IS OF BULK AT MOST 1048576: true; the input reads as it did. -/
def fnExactResidualsOfUptoRow : OpenClaim := { program := "ytjhlpaeenjbljaa", sum := "ffbf30dd9bf5c21c05890c34f016e2cb283f216005f2bc528bd96306973e2824", func := "loop.example/g01254/laws.FnExactResidualsOf", spec := "fnExactResidualsOf", unfollowed := true, recurses := true, apart := false, narrowed := true }
def FnExactResidualsOfUptoSaid : Prop := fnExactResidualsOfUptoRow.holds Try.pinned (OpenSpec.upto fnExactResidualsOfSpec)

/-- 'laws.FnExactSquaresOf', WHERE WHAT IT READS IS OF BULK AT MOST 1048576: true; the input reads as it did. -/
def fnExactSquaresOfUptoRow : OpenClaim := { program := "ytjhlpaeenjbljaa", sum := "ffbf30dd9bf5c21c05890c34f016e2cb283f216005f2bc528bd96306973e2824", func := "loop.example/g01254/laws.FnExactSquaresOf", spec := "fnExactSquaresOf", unfollowed := true, recurses := true, apart := false, narrowed := true }
def FnExactSquaresOfUptoSaid : Prop := fnExactSquaresOfUptoRow.holds Try.pinned (OpenSpec.upto fnExactSquaresOfSpec)

/-- 'laws.FnExactWorstObs', WHERE WHAT IT READS IS OF BULK AT MOST 1048576: true; the input reads as it did. -/
def fnExactWorstObsUptoRow : OpenClaim := { program := "ytjhlpaeenjbljaa", sum := "ffbf30dd9bf5c21c05890c34f016e2cb283f216005f2bc528bd96306973e2824", func := "loop.example/g01254/laws.FnExactWorstObs", spec := "fnExactWorstObs", unfollowed := true, recurses := true, apart := false, narrowed := true }
def FnExactWorstObsUptoSaid : Prop := fnExactWorstObsUptoRow.holds Try.pinned (OpenSpec.upto fnExactWorstObsSpec)

/-- 'laws.FnExactWithoutObs', WHERE WHAT IT READS IS OF BULK AT MOST 1048576: true; the input reads as it did. -/
def fnExactWithoutObsUptoRow : OpenClaim := { program := "ytjhlpaeenjbljaa", sum := "ffbf30dd9bf5c21c05890c34f016e2cb283f216005f2bc528bd96306973e2824", func := "loop.example/g01254/laws.FnExactWithoutObs", spec := "fnExactWithoutObs", unfollowed := true, recurses := true, apart := false, narrowed := true }
def FnExactWithoutObsUptoSaid : Prop := fnExactWithoutObsUptoRow.holds Try.pinned (OpenSpec.upto fnExactWithoutObsSpec)

/-- 'laws.FnExactPairTable', WHERE WHAT IT READS IS OF BULK AT MOST 1048576: true; the input reads as it did. -/
def fnExactPairTableUptoRow : OpenClaim := { program := "ytjhlpaeenjbljaa", sum := "ffbf30dd9bf5c21c05890c34f016e2cb283f216005f2bc528bd96306973e2824", func := "loop.example/g01254/laws.FnExactPairTable", spec := "fnExactPairTable", unfollowed := true, recurses := true, apart := false, narrowed := true }
def FnExactPairTableUptoSaid : Prop := fnExactPairTableUptoRow.holds Try.pinned (OpenSpec.upto fnExactPairTableSpec)

/-- 'laws.FnExactIsLeast', WHERE WHAT IT READS IS OF BULK AT MOST 1048576: true; the input reads as it did. -/
def fnExactIsLeastUptoRow : OpenClaim := { program := "ytjhlpaeenjbljaa", sum := "ffbf30dd9bf5c21c05890c34f016e2cb283f216005f2bc528bd96306973e2824", func := "loop.example/g01254/laws.FnExactIsLeast", spec := "fnExactIsLeast", unfollowed := true, recurses := true, apart := false, narrowed := true }
def FnExactIsLeastUptoSaid : Prop := fnExactIsLeastUptoRow.holds Try.pinned (OpenSpec.upto fnExactIsLeastSpec)

/-- 'laws.FnExactNormalOf', WHERE WHAT IT READS IS OF BULK AT MOST 1048576: true; the input reads as it did. -/
def fnExactNormalOfUptoRow : OpenClaim := { program := "ytjhlpaeenjbljaa", sum := "ffbf30dd9bf5c21c05890c34f016e2cb283f216005f2bc528bd96306973e2824", func := "loop.example/g01254/laws.FnExactNormalOf", spec := "fnExactNormalOf", unfollowed := true, recurses := true, apart := false, narrowed := true }
def FnExactNormalOfUptoSaid : Prop := fnExactNormalOfUptoRow.holds Try.pinned (OpenSpec.upto fnExactNormalOfSpec)

end Rows
end Go.Proofs.Ytjhlpaeenjbljaa
