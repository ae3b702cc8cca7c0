/-
  No cell of these rows narrows 'for every input' (looked for: loops, veiled, ifaces, maps, wideKeys, modest, calm, conditions, laid).
  DERIVED. THE GIVEN ROWS OF THIS SEAT. 5 by the template 'for every input the law returns true; each argument reads behind the call as it read before'; 0 by the template 'total and deterministic' (their statements: YtpadjkgbeijkpaaTotals.lean).
  GIVEN WITH THE SEED: the statements are not yours to turn. If you find one false, say at which input.
  Laid BY PROGRAM, IN A SANDBOX (cutbox-rows.mjs): the forced cells as the released guide's own fill.sh prints them over the translation 85b461d27f50fbe7… (all of the seat's roots in one cut). By AI agents, Wed Nov 11 2026. No macro, syntax, notation, axiom, sorry.
-/
import Derived.Test.YtpadjkgbeijkpaaChecked
import GoSem.Claim
import GoSem.ClaimJoined
import GoSem.ClaimMapViews
import Derived.JoinedTies
import Derived.KernelRfl
namespace Go.Proofs.Ytpadjkgbeijkpaa
/- THE CELL 'sum', in the pinned program and in every row, IS THE sha256 OF THE DUMP (.gsa) THAT YtpadjkgbeijkpaaProg.lean LOADS. Nothing in Lean hashes anything: it is a label: what it is worth is what the hold of that sum in a sandbox is worth. -/
noncomputable def Try.pinned : Pinned := { name := "ytpadjkgbeijkpaa", sum := "85b461d27f50fbe75227fab4097b1cedeb90ccb9ebf098da9239244e97924b06", checked := Try.checked }
namespace Rows
def none {H : Type} : Left H := { results := [], args := [] }

/-- 'laws.FnExactIsLeast': WHATEVER THE INPUT: true; the input reads as it did. -/
def fnExactIsLeastSpec : ChangeSpec := { name := "fnExactIsLeast", fn := fun _ => fun
  | [d1, d2] => { results := [.lit (.bool true)], args := [d1, d2] }
  | _ => none }
def fnExactIsLeastRow : OpenClaim := { program := "ytpadjkgbeijkpaa", sum := "85b461d27f50fbe75227fab4097b1cedeb90ccb9ebf098da9239244e97924b06", func := "loop.example/g01254/laws.FnExactIsLeast", spec := "fnExactIsLeast", unfollowed := true, recurses := true, plainKeys := false, apart := false }
def FnExactIsLeastSaid : Prop := fnExactIsLeastRow.holds Try.pinned (OpenSpec.ofChange fnExactIsLeastSpec)

/-- ITS FALSE NEIGHBOUR: 'it returns false'. Refute it at one input. -/
def fnExactIsLeastWrong : ChangeSpec := { name := "fnExactIsLeast", fn := fun _ => fun
  | [d1, d2] => { results := [.lit (.bool false)], args := [d1, d2] }
  | _ => none }
def FnExactIsLeastWrongFalsely : Prop := fnExactIsLeastRow.holds Try.pinned (OpenSpec.ofChange fnExactIsLeastWrong)

/-- 'laws.FnExactLeaveOut': WHATEVER THE INPUT: true; the input reads as it did. -/
def fnExactLeaveOutSpec : ChangeSpec := { name := "fnExactLeaveOut", fn := fun _ => fun
  | [d1, d2] => { results := [.lit (.bool true)], args := [d1, d2] }
  | _ => none }
def fnExactLeaveOutRow : OpenClaim := { program := "ytpadjkgbeijkpaa", sum := "85b461d27f50fbe75227fab4097b1cedeb90ccb9ebf098da9239244e97924b06", func := "loop.example/g01254/laws.FnExactLeaveOut", spec := "fnExactLeaveOut", unfollowed := true, recurses := true, plainKeys := false, apart := false }
def FnExactLeaveOutSaid : Prop := fnExactLeaveOutRow.holds Try.pinned (OpenSpec.ofChange fnExactLeaveOutSpec)

/-- ITS FALSE NEIGHBOUR: 'it returns false'. Refute it at one input. -/
def fnExactLeaveOutWrong : ChangeSpec := { name := "fnExactLeaveOut", fn := fun _ => fun
  | [d1, d2] => { results := [.lit (.bool false)], args := [d1, d2] }
  | _ => none }
def FnExactLeaveOutWrongFalsely : Prop := fnExactLeaveOutRow.holds Try.pinned (OpenSpec.ofChange fnExactLeaveOutWrong)

/-- 'laws.FnExactWhoRead': WHATEVER THE INPUT: true; the input reads as it did. -/
def fnExactWhoReadSpec : ChangeSpec := { name := "fnExactWhoRead", fn := fun _ => fun
  | [d1, d2, d3] => { results := [.lit (.bool true)], args := [d1, d2, d3] }
  | _ => none }
def fnExactWhoReadRow : OpenClaim := { program := "ytpadjkgbeijkpaa", sum := "85b461d27f50fbe75227fab4097b1cedeb90ccb9ebf098da9239244e97924b06", func := "loop.example/g01254/laws.FnExactWhoRead", spec := "fnExactWhoRead", unfollowed := true, recurses := true, plainKeys := false, apart := false }
def FnExactWhoReadSaid : Prop := fnExactWhoReadRow.holds Try.pinned (OpenSpec.ofChange fnExactWhoReadSpec)

/-- ITS FALSE NEIGHBOUR: 'it returns false'. Refute it at one input. -/
def fnExactWhoReadWrong : ChangeSpec := { name := "fnExactWhoRead", fn := fun _ => fun
  | [d1, d2, d3] => { results := [.lit (.bool false)], args := [d1, d2, d3] }
  | _ => none }
def FnExactWhoReadWrongFalsely : Prop := fnExactWhoReadRow.holds Try.pinned (OpenSpec.ofChange fnExactWhoReadWrong)

/-- 'laws.FnExactNearestReader': WHATEVER THE INPUT: true; the input reads as it did. -/
def fnExactNearestReaderSpec : ChangeSpec := { name := "fnExactNearestReader", fn := fun _ => fun
  | [d1, d2, d3] => { results := [.lit (.bool true)], args := [d1, d2, d3] }
  | _ => none }
def fnExactNearestReaderRow : OpenClaim := { program := "ytpadjkgbeijkpaa", sum := "85b461d27f50fbe75227fab4097b1cedeb90ccb9ebf098da9239244e97924b06", func := "loop.example/g01254/laws.FnExactNearestReader", spec := "fnExactNearestReader", unfollowed := true, recurses := true, plainKeys := false, apart := false }
def FnExactNearestReaderSaid : Prop := fnExactNearestReaderRow.holds Try.pinned (OpenSpec.ofChange fnExactNearestReaderSpec)

/-- ITS FALSE NEIGHBOUR: 'it returns false'. Refute it at one input. -/
def fnExactNearestReaderWrong : ChangeSpec := { name := "fnExactNearestReader", fn := fun _ => fun
  | [d1, d2, d3] => { results := [.lit (.bool false)], args := [d1, d2, d3] }
  | _ => none }
def FnExactNearestReaderWrongFalsely : Prop := fnExactNearestReaderRow.holds Try.pinned (OpenSpec.ofChange fnExactNearestReaderWrong)

/-- 'laws.FnExactCorrectReadings': WHATEVER THE INPUT: true; the input reads as it did. -/
def fnExactCorrectReadingsSpec : ChangeSpec := { name := "fnExactCorrectReadings", fn := fun _ => fun
  | [d1, d2] => { results := [.lit (.bool true)], args := [d1, d2] }
  | _ => none }
def fnExactCorrectReadingsRow : OpenClaim := { program := "ytpadjkgbeijkpaa", sum := "85b461d27f50fbe75227fab4097b1cedeb90ccb9ebf098da9239244e97924b06", func := "loop.example/g01254/laws.FnExactCorrectReadings", spec := "fnExactCorrectReadings", unfollowed := true, recurses := true, plainKeys := false, apart := false }
def FnExactCorrectReadingsSaid : Prop := fnExactCorrectReadingsRow.holds Try.pinned (OpenSpec.ofChange fnExactCorrectReadingsSpec)

/-- ITS FALSE NEIGHBOUR: 'it returns false'. Refute it at one input. -/
def fnExactCorrectReadingsWrong : ChangeSpec := { name := "fnExactCorrectReadings", fn := fun _ => fun
  | [d1, d2] => { results := [.lit (.bool false)], args := [d1, d2] }
  | _ => none }
def FnExactCorrectReadingsWrongFalsely : Prop := fnExactCorrectReadingsRow.holds Try.pinned (OpenSpec.ofChange fnExactCorrectReadingsWrong)

/- THE SECOND FORM. 'bulk': how many values and letters a reading holds, each counted each time it is reached (what is shared counts as often as it is met; a slice's spare places count too). A statement '..UptoSaid' is the law's where the arguments, and the package variables that the reading takes, are together of bulk at most 1048576: NARROWER than '..Said'. Prove '..Said' where nothing that the law and all that it calls make is longer than what came in: it says more and counts as full. Else prove '..UptoSaid'. A law counts once. -/
mutual
def uptoBulk {H : Type} : DataW H → Nat
  | .lit (.string bytes) => bytes.length + 1
  | .lit _ => 1
  | .nil => 1
  | .ptr d => uptoBulk d + 1
  | .slice elems spare => uptoBulkAll elems + uptoBulkAll spare + 1
  | .agg parts => uptoBulkAll parts + 1
  | .iface _ d => uptoBulk d + 1
  | .map entries => uptoBulkEntries entries + 1
  | .held _ => 1
def uptoBulkAll {H : Type} : List (DataW H) → Nat
  | [] => 0
  | d :: r => uptoBulk d + uptoBulkAll r
def uptoBulkEntries {H : Type} : List (Lit × DataW H) → Nat
  | [] => 0
  | x :: r => uptoBulkEntry x + uptoBulkEntries r
def uptoBulkEntry {H : Type} : Lit × DataW H → Nat
  | (.string bytes, d) => bytes.length + uptoBulk d + 1
  | (_, d) => uptoBulk d + 1
 end
def uptoSmall : (H : Type) → List (DataW H) → Bool := fun _ ds => decide (uptoBulkAll ds ≤ 1048576)
def OpenSpec.upto (s : _root_.Go.ChangeSpec) : _root_.Go.OpenSpec := { _root_.Go.OpenSpec.ofChange s with cond := some uptoSmall }

/-- 'laws.FnExactIsLeast', WHERE WHAT IT READS IS OF BULK AT MOST 1048576: true; the input reads as it did. -/
def fnExactIsLeastUptoRow : OpenClaim := { program := "ytpadjkgbeijkpaa", sum := "85b461d27f50fbe75227fab4097b1cedeb90ccb9ebf098da9239244e97924b06", func := "loop.example/g01254/laws.FnExactIsLeast", spec := "fnExactIsLeast", unfollowed := true, recurses := true, plainKeys := false, apart := false, narrowed := true }
def FnExactIsLeastUptoSaid : Prop := fnExactIsLeastUptoRow.holds Try.pinned (OpenSpec.upto fnExactIsLeastSpec)

/-- 'laws.FnExactLeaveOut', WHERE WHAT IT READS IS OF BULK AT MOST 1048576: true; the input reads as it did. -/
def fnExactLeaveOutUptoRow : OpenClaim := { program := "ytpadjkgbeijkpaa", sum := "85b461d27f50fbe75227fab4097b1cedeb90ccb9ebf098da9239244e97924b06", func := "loop.example/g01254/laws.FnExactLeaveOut", spec := "fnExactLeaveOut", unfollowed := true, recurses := true, plainKeys := false, apart := false, narrowed := true }
def FnExactLeaveOutUptoSaid : Prop := fnExactLeaveOutUptoRow.holds Try.pinned (OpenSpec.upto fnExactLeaveOutSpec)

/-- 'laws.FnExactWhoRead', WHERE WHAT IT READS IS OF BULK AT MOST 1048576: true; the input reads as it did. -/
def fnExactWhoReadUptoRow : OpenClaim := { program := "ytpadjkgbeijkpaa", sum := "85b461d27f50fbe75227fab4097b1cedeb90ccb9ebf098da9239244e97924b06", func := "loop.example/g01254/laws.FnExactWhoRead", spec := "fnExactWhoRead", unfollowed := true, recurses := true, plainKeys := false, apart := false, narrowed := true }
def FnExactWhoReadUptoSaid : Prop := fnExactWhoReadUptoRow.holds Try.pinned (OpenSpec.upto fnExactWhoReadSpec)

/-- 'laws.FnExactNearestReader', WHERE WHAT IT READS IS OF BULK AT MOST 1048576: true; the input reads as it did. -/
def fnExactNearestReaderUptoRow : OpenClaim := { program := "ytpadjkgbeijkpaa", sum := "85b461d27f50fbe75227fab4097b1cedeb90ccb9ebf098da9239244e97924b06", func := "loop.example/g01254/laws.FnExactNearestReader", spec := "fnExactNearestReader", unfollowed := true, recurses := true, plainKeys := false, apart := false, narrowed := true }
def FnExactNearestReaderUptoSaid : Prop := fnExactNearestReaderUptoRow.holds Try.pinned (OpenSpec.upto fnExactNearestReaderSpec)

/-- 'laws.FnExactCorrectReadings', WHERE WHAT IT READS IS OF BULK AT MOST 1048576: true; the input reads as it did. -/
def fnExactCorrectReadingsUptoRow : OpenClaim := { program := "ytpadjkgbeijkpaa", sum := "85b461d27f50fbe75227fab4097b1cedeb90ccb9ebf098da9239244e97924b06", func := "loop.example/g01254/laws.FnExactCorrectReadings", spec := "fnExactCorrectReadings", unfollowed := true, recurses := true, plainKeys := false, apart := false, narrowed := true }
def FnExactCorrectReadingsUptoSaid : Prop := fnExactCorrectReadingsUptoRow.holds Try.pinned (OpenSpec.upto fnExactCorrectReadingsSpec)

end Rows
end Go.Proofs.Ytpadjkgbeijkpaa
