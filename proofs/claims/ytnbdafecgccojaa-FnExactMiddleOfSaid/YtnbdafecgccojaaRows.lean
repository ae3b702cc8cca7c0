/-
  No cell of these rows narrows 'for every input' (looked for: loops, veiled, ifaces, maps, wideKeys, modest, calm, conditions, laid).
  DERIVED. THE GIVEN ROWS OF THIS SEAT. 12 by the template 'for every input the law returns true; each argument reads behind the call as it read before'; 0 by the template 'total and deterministic' (their statements: YtnbdafecgccojaaTotals.lean).
  GIVEN WITH THE SEED: the statements are not yours to turn. If you find one false, say at which input.
  Laid BY PROGRAM, IN A SANDBOX (cutbox-rows.mjs): the forced cells as the released guide's own fill.sh prints them over the translation 148957efaf9c8e96… (all of the seat's roots in one cut). By AI agents, Wed Nov 11 2026. No macro, syntax, notation, axiom, sorry.
-/
import Derived.Test.YtnbdafecgccojaaChecked
import GoSem.Claim
import GoSem.ClaimJoined
import GoSem.ClaimMapViews
import Derived.JoinedTies
import Derived.KernelRfl
namespace Go.Proofs.Ytnbdafecgccojaa
/- THE CELL 'sum', in the pinned program and in every row, IS THE sha256 OF THE DUMP (.gsa) THAT YtnbdafecgccojaaProg.lean LOADS. Nothing in Lean hashes anything: it is a label: what it is worth is what the hold of that sum in a sandbox is worth. -/
noncomputable def Try.pinned : Pinned := { name := "ytnbdafecgccojaa", sum := "148957efaf9c8e96661d5c5bec98d4606b554a77fe1b54eea5676f67c062cc47", checked := Try.checked }
namespace Rows
def none {H : Type} : Left H := { results := [], args := [] }

/-- 'laws.FnExactReadingSpan': WHATEVER THE INPUT: true; the input reads as it did. -/
def fnExactReadingSpanSpec : ChangeSpec := { name := "fnExactReadingSpan", fn := fun _ => fun
  | [d1, d2, d3] => { results := [.lit (.bool true)], args := [d1, d2, d3] }
  | _ => none }
def fnExactReadingSpanRow : OpenClaim := { program := "ytnbdafecgccojaa", sum := "148957efaf9c8e96661d5c5bec98d4606b554a77fe1b54eea5676f67c062cc47", func := "loop.example/g01254/laws.FnExactReadingSpan", spec := "fnExactReadingSpan", unfollowed := true, recurses := true, plainKeys := false, apart := false }
def FnExactReadingSpanSaid : Prop := fnExactReadingSpanRow.holds Try.pinned (OpenSpec.ofChange fnExactReadingSpanSpec)

/-- ITS FALSE NEIGHBOUR: 'it returns false'. Refute it at one input. -/
def fnExactReadingSpanWrong : ChangeSpec := { name := "fnExactReadingSpan", fn := fun _ => fun
  | [d1, d2, d3] => { results := [.lit (.bool false)], args := [d1, d2, d3] }
  | _ => none }
def FnExactReadingSpanWrongFalsely : Prop := fnExactReadingSpanRow.holds Try.pinned (OpenSpec.ofChange fnExactReadingSpanWrong)

/-- 'laws.FnExactErrorsFrom': WHATEVER THE INPUT: true; the input reads as it did. -/
def fnExactErrorsFromSpec : ChangeSpec := { name := "fnExactErrorsFrom", fn := fun _ => fun
  | [d1, d2, d3] => { results := [.lit (.bool true)], args := [d1, d2, d3] }
  | _ => none }
def fnExactErrorsFromRow : OpenClaim := { program := "ytnbdafecgccojaa", sum := "148957efaf9c8e96661d5c5bec98d4606b554a77fe1b54eea5676f67c062cc47", func := "loop.example/g01254/laws.FnExactErrorsFrom", spec := "fnExactErrorsFrom", unfollowed := true, recurses := true, plainKeys := false, apart := false }
def FnExactErrorsFromSaid : Prop := fnExactErrorsFromRow.holds Try.pinned (OpenSpec.ofChange fnExactErrorsFromSpec)

/-- ITS FALSE NEIGHBOUR: 'it returns false'. Refute it at one input. -/
def fnExactErrorsFromWrong : ChangeSpec := { name := "fnExactErrorsFrom", fn := fun _ => fun
  | [d1, d2, d3] => { results := [.lit (.bool false)], args := [d1, d2, d3] }
  | _ => none }
def FnExactErrorsFromWrongFalsely : Prop := fnExactErrorsFromRow.holds Try.pinned (OpenSpec.ofChange fnExactErrorsFromWrong)

/-- 'laws.FnExactStretchOf': WHATEVER THE INPUT: true; the input reads as it did. -/
def fnExactStretchOfSpec : ChangeSpec := { name := "fnExactStretchOf", fn := fun _ => fun
  | [d1, d2] => { results := [.lit (.bool true)], args := [d1, d2] }
  | _ => none }
def fnExactStretchOfRow : OpenClaim := { program := "ytnbdafecgccojaa", sum := "148957efaf9c8e96661d5c5bec98d4606b554a77fe1b54eea5676f67c062cc47", func := "loop.example/g01254/laws.FnExactStretchOf", spec := "fnExactStretchOf", unfollowed := true, recurses := true, plainKeys := false, apart := false }
def FnExactStretchOfSaid : Prop := fnExactStretchOfRow.holds Try.pinned (OpenSpec.ofChange fnExactStretchOfSpec)

/-- ITS FALSE NEIGHBOUR: 'it returns false'. Refute it at one input. -/
def fnExactStretchOfWrong : ChangeSpec := { name := "fnExactStretchOf", fn := fun _ => fun
  | [d1, d2] => { results := [.lit (.bool false)], args := [d1, d2] }
  | _ => none }
def FnExactStretchOfWrongFalsely : Prop := fnExactStretchOfRow.holds Try.pinned (OpenSpec.ofChange fnExactStretchOfWrong)

/-- 'laws.FnExactMiddleOf': WHATEVER THE INPUT: true; the input reads as it did. -/
def fnExactMiddleOfSpec : ChangeSpec := { name := "fnExactMiddleOf", fn := fun _ => fun
  | [d] => { results := [.lit (.bool true)], args := [d] }
  | _ => none }
def fnExactMiddleOfRow : OpenClaim := { program := "ytnbdafecgccojaa", sum := "148957efaf9c8e96661d5c5bec98d4606b554a77fe1b54eea5676f67c062cc47", func := "loop.example/g01254/laws.FnExactMiddleOf", spec := "fnExactMiddleOf", unfollowed := true, recurses := true, plainKeys := false, apart := false }
def FnExactMiddleOfSaid : Prop := fnExactMiddleOfRow.holds Try.pinned (OpenSpec.ofChange fnExactMiddleOfSpec)

/-- ITS FALSE NEIGHBOUR: 'it returns false'. Refute it at one input. -/
def fnExactMiddleOfWrong : ChangeSpec := { name := "fnExactMiddleOf", fn := fun _ => fun
  | [d] => { results := [.lit (.bool false)], args := [d] }
  | _ => none }
def FnExactMiddleOfWrongFalsely : Prop := fnExactMiddleOfRow.holds Try.pinned (OpenSpec.ofChange fnExactMiddleOfWrong)

/-- 'laws.FnExactMedianOf': WHATEVER THE INPUT: true; the input reads as it did. -/
def fnExactMedianOfSpec : ChangeSpec := { name := "fnExactMedianOf", fn := fun _ => fun
  | [d] => { results := [.lit (.bool true)], args := [d] }
  | _ => none }
def fnExactMedianOfRow : OpenClaim := { program := "ytnbdafecgccojaa", sum := "148957efaf9c8e96661d5c5bec98d4606b554a77fe1b54eea5676f67c062cc47", func := "loop.example/g01254/laws.FnExactMedianOf", spec := "fnExactMedianOf", unfollowed := true, recurses := true, plainKeys := false, apart := false }
def FnExactMedianOfSaid : Prop := fnExactMedianOfRow.holds Try.pinned (OpenSpec.ofChange fnExactMedianOfSpec)

/-- ITS FALSE NEIGHBOUR: 'it returns false'. Refute it at one input. -/
def fnExactMedianOfWrong : ChangeSpec := { name := "fnExactMedianOf", fn := fun _ => fun
  | [d] => { results := [.lit (.bool false)], args := [d] }
  | _ => none }
def FnExactMedianOfWrongFalsely : Prop := fnExactMedianOfRow.holds Try.pinned (OpenSpec.ofChange fnExactMedianOfWrong)

/-- 'laws.FnExactScatterOf': WHATEVER THE INPUT: true; the input reads as it did. -/
def fnExactScatterOfSpec : ChangeSpec := { name := "fnExactScatterOf", fn := fun _ => fun
  | [d] => { results := [.lit (.bool true)], args := [d] }
  | _ => none }
def fnExactScatterOfRow : OpenClaim := { program := "ytnbdafecgccojaa", sum := "148957efaf9c8e96661d5c5bec98d4606b554a77fe1b54eea5676f67c062cc47", func := "loop.example/g01254/laws.FnExactScatterOf", spec := "fnExactScatterOf", unfollowed := true, recurses := true, plainKeys := false, apart := false }
def FnExactScatterOfSaid : Prop := fnExactScatterOfRow.holds Try.pinned (OpenSpec.ofChange fnExactScatterOfSpec)

/-- ITS FALSE NEIGHBOUR: 'it returns false'. Refute it at one input. -/
def fnExactScatterOfWrong : ChangeSpec := { name := "fnExactScatterOf", fn := fun _ => fun
  | [d] => { results := [.lit (.bool false)], args := [d] }
  | _ => none }
def FnExactScatterOfWrongFalsely : Prop := fnExactScatterOfRow.holds Try.pinned (OpenSpec.ofChange fnExactScatterOfWrong)

/-- 'laws.FnExactLeaveOut': WHATEVER THE INPUT: true; the input reads as it did. -/
def fnExactLeaveOutSpec : ChangeSpec := { name := "fnExactLeaveOut", fn := fun _ => fun
  | [d1, d2] => { results := [.lit (.bool true)], args := [d1, d2] }
  | _ => none }
def fnExactLeaveOutRow : OpenClaim := { program := "ytnbdafecgccojaa", sum := "148957efaf9c8e96661d5c5bec98d4606b554a77fe1b54eea5676f67c062cc47", func := "loop.example/g01254/laws.FnExactLeaveOut", spec := "fnExactLeaveOut", unfollowed := true, recurses := true, plainKeys := false, apart := false }
def FnExactLeaveOutSaid : Prop := fnExactLeaveOutRow.holds Try.pinned (OpenSpec.ofChange fnExactLeaveOutSpec)

/-- ITS FALSE NEIGHBOUR: 'it returns false'. Refute it at one input. -/
def fnExactLeaveOutWrong : ChangeSpec := { name := "fnExactLeaveOut", fn := fun _ => fun
  | [d1, d2] => { results := [.lit (.bool false)], args := [d1, d2] }
  | _ => none }
def FnExactLeaveOutWrongFalsely : Prop := fnExactLeaveOutRow.holds Try.pinned (OpenSpec.ofChange fnExactLeaveOutWrong)

/-- 'laws.FnExactWithoutObs': WHATEVER THE INPUT: true; the input reads as it did. -/
def fnExactWithoutObsSpec : ChangeSpec := { name := "fnExactWithoutObs", fn := fun _ => fun
  | [d1, d2] => { results := [.lit (.bool true)], args := [d1, d2] }
  | _ => none }
def fnExactWithoutObsRow : OpenClaim := { program := "ytnbdafecgccojaa", sum := "148957efaf9c8e96661d5c5bec98d4606b554a77fe1b54eea5676f67c062cc47", func := "loop.example/g01254/laws.FnExactWithoutObs", spec := "fnExactWithoutObs", unfollowed := true, recurses := true, plainKeys := false, apart := false }
def FnExactWithoutObsSaid : Prop := fnExactWithoutObsRow.holds Try.pinned (OpenSpec.ofChange fnExactWithoutObsSpec)

/-- ITS FALSE NEIGHBOUR: 'it returns false'. Refute it at one input. -/
def fnExactWithoutObsWrong : ChangeSpec := { name := "fnExactWithoutObs", fn := fun _ => fun
  | [d1, d2] => { results := [.lit (.bool false)], args := [d1, d2] }
  | _ => none }
def FnExactWithoutObsWrongFalsely : Prop := fnExactWithoutObsRow.holds Try.pinned (OpenSpec.ofChange fnExactWithoutObsWrong)

/-- 'laws.FnExactPairTable': WHATEVER THE INPUT: true; the input reads as it did. -/
def fnExactPairTableSpec : ChangeSpec := { name := "fnExactPairTable", fn := fun _ => fun
  | [d] => { results := [.lit (.bool true)], args := [d] }
  | _ => none }
def fnExactPairTableRow : OpenClaim := { program := "ytnbdafecgccojaa", sum := "148957efaf9c8e96661d5c5bec98d4606b554a77fe1b54eea5676f67c062cc47", func := "loop.example/g01254/laws.FnExactPairTable", spec := "fnExactPairTable", unfollowed := true, recurses := true, plainKeys := false, apart := false }
def FnExactPairTableSaid : Prop := fnExactPairTableRow.holds Try.pinned (OpenSpec.ofChange fnExactPairTableSpec)

/-- ITS FALSE NEIGHBOUR: 'it returns false'. Refute it at one input. -/
def fnExactPairTableWrong : ChangeSpec := { name := "fnExactPairTable", fn := fun _ => fun
  | [d] => { results := [.lit (.bool false)], args := [d] }
  | _ => none }
def FnExactPairTableWrongFalsely : Prop := fnExactPairTableRow.holds Try.pinned (OpenSpec.ofChange fnExactPairTableWrong)

/-- 'laws.FnExactSquaresOf': WHATEVER THE INPUT: true; the input reads as it did. -/
def fnExactSquaresOfSpec : ChangeSpec := { name := "fnExactSquaresOf", fn := fun _ => fun
  | [d1, d2] => { results := [.lit (.bool true)], args := [d1, d2] }
  | _ => none }
def fnExactSquaresOfRow : OpenClaim := { program := "ytnbdafecgccojaa", sum := "148957efaf9c8e96661d5c5bec98d4606b554a77fe1b54eea5676f67c062cc47", func := "loop.example/g01254/laws.FnExactSquaresOf", spec := "fnExactSquaresOf", unfollowed := true, recurses := true, plainKeys := false, apart := false }
def FnExactSquaresOfSaid : Prop := fnExactSquaresOfRow.holds Try.pinned (OpenSpec.ofChange fnExactSquaresOfSpec)

/-- ITS FALSE NEIGHBOUR: 'it returns false'. Refute it at one input. -/
def fnExactSquaresOfWrong : ChangeSpec := { name := "fnExactSquaresOf", fn := fun _ => fun
  | [d1, d2] => { results := [.lit (.bool false)], args := [d1, d2] }
  | _ => none }
def FnExactSquaresOfWrongFalsely : Prop := fnExactSquaresOfRow.holds Try.pinned (OpenSpec.ofChange fnExactSquaresOfWrong)

/-- 'laws.FnExactCorrectReadings': WHATEVER THE INPUT: true; the input reads as it did. -/
def fnExactCorrectReadingsSpec : ChangeSpec := { name := "fnExactCorrectReadings", fn := fun _ => fun
  | [d1, d2] => { results := [.lit (.bool true)], args := [d1, d2] }
  | _ => none }
def fnExactCorrectReadingsRow : OpenClaim := { program := "ytnbdafecgccojaa", sum := "148957efaf9c8e96661d5c5bec98d4606b554a77fe1b54eea5676f67c062cc47", func := "loop.example/g01254/laws.FnExactCorrectReadings", spec := "fnExactCorrectReadings", unfollowed := true, recurses := true, plainKeys := false, apart := false }
def FnExactCorrectReadingsSaid : Prop := fnExactCorrectReadingsRow.holds Try.pinned (OpenSpec.ofChange fnExactCorrectReadingsSpec)

/-- ITS FALSE NEIGHBOUR: 'it returns false'. Refute it at one input. -/
def fnExactCorrectReadingsWrong : ChangeSpec := { name := "fnExactCorrectReadings", fn := fun _ => fun
  | [d1, d2] => { results := [.lit (.bool false)], args := [d1, d2] }
  | _ => none }
def FnExactCorrectReadingsWrongFalsely : Prop := fnExactCorrectReadingsRow.holds Try.pinned (OpenSpec.ofChange fnExactCorrectReadingsWrong)

/-- 'laws.FnExactValueFrom': WHATEVER THE INPUT: true; the input reads as it did. -/
def fnExactValueFromSpec : ChangeSpec := { name := "fnExactValueFrom", fn := fun _ => fun
  | [d1, d2] => { results := [.lit (.bool true)], args := [d1, d2] }
  | _ => none }
def fnExactValueFromRow : OpenClaim := { program := "ytnbdafecgccojaa", sum := "148957efaf9c8e96661d5c5bec98d4606b554a77fe1b54eea5676f67c062cc47", func := "loop.example/g01254/laws.FnExactValueFrom", spec := "fnExactValueFrom", unfollowed := true, recurses := true, plainKeys := false, apart := false }
def FnExactValueFromSaid : Prop := fnExactValueFromRow.holds Try.pinned (OpenSpec.ofChange fnExactValueFromSpec)

/-- ITS FALSE NEIGHBOUR: 'it returns false'. Refute it at one input. -/
def fnExactValueFromWrong : ChangeSpec := { name := "fnExactValueFrom", fn := fun _ => fun
  | [d1, d2] => { results := [.lit (.bool false)], args := [d1, d2] }
  | _ => none }
def FnExactValueFromWrongFalsely : Prop := fnExactValueFromRow.holds Try.pinned (OpenSpec.ofChange fnExactValueFromWrong)

/- THE SECOND FORM. 'bulk': how many values and letters a reading holds, each counted each time it is reached (what is shared counts as often as it is met; a slice's spare places count too). A statement '..UptoSaid' is the law's where the arguments, and the package variables that the reading takes, are together of bulk at most 1048576: NARROWER than '..Said'. Prove '..Said' where nothing that the law and all that it calls make is longer than what came in: it says more and counts as full. Else prove '..UptoSaid'. A law counts once. -/
mutual
def uptoBulk {H : Type} : DataW H → Nat
  | .lit (.string bytes) => bytes.length + 1
  | .lit _ => 1
  | .nil => 1
  | .ptr d => uptoBulk d + 1
  | .slice elems spare => uptoBulkAll elems + uptoBulkAll spare + 1
  | .agg parts => uptoBulkAll parts + 1
  | .iface _ d => uptoBulk d + 1
  | .map entries => uptoBulkEntries entries + 1
  | .held _ => 1
def uptoBulkAll {H : Type} : List (DataW H) → Nat
  | [] => 0
  | d :: r => uptoBulk d + uptoBulkAll r
def uptoBulkEntries {H : Type} : List (Lit × DataW H) → Nat
  | [] => 0
  | x :: r => uptoBulkEntry x + uptoBulkEntries r
def uptoBulkEntry {H : Type} : Lit × DataW H → Nat
  | (.string bytes, d) => bytes.length + uptoBulk d + 1
  | (_, d) => uptoBulk d + 1
 end
def uptoSmall : (H : Type) → List (DataW H) → Bool := fun _ ds => decide (uptoBulkAll ds ≤ 1048576)
def OpenSpec.upto (s : _root_.Go.ChangeSpec) : _root_.Go.OpenSpec := { _root_.Go.OpenSpec.ofChange s with cond := some uptoSmall }

/-- 'laws.FnExactReadingSpan', WHERE WHAT IT READS IS OF BULK AT MOST 1048576: true; the input reads as it did. -/
def fnExactReadingSpanUptoRow : OpenClaim := { program := "ytnbdafecgccojaa", sum := "148957efaf9c8e96661d5c5bec98d4606b554a77fe1b54eea5676f67c062cc47", func := "loop.example/g01254/laws.FnExactReadingSpan", spec := "fnExactReadingSpan", unfollowed := true, recurses := true, plainKeys := false, apart := false, narrowed := true }
def FnExactReadingSpanUptoSaid : Prop := fnExactReadingSpanUptoRow.holds Try.pinned (OpenSpec.upto fnExactReadingSpanSpec)

/-- 'laws.FnExactErrorsFrom', WHERE WHAT IT READS IS OF BULK AT MOST 1048576: true; the input reads as it did. -/
def fnExactErrorsFromUptoRow : OpenClaim := { program := "ytnbdafecgccojaa", sum := "148957efaf9c8e96661d5c5bec98d4606b554a77fe1b54eea5676f67c062cc47", func := "loop.example/g01254/laws.FnExactErrorsFrom", spec := "fnExactErrorsFrom", unfollowed := true, recurses := true, plainKeys := false, apart := false, narrowed := true }
def FnExactErrorsFromUptoSaid : Prop := fnExactErrorsFromUptoRow.holds Try.pinned (OpenSpec.upto fnExactErrorsFromSpec)

/-- 'laws.FnExactStretchOf', WHERE WHAT IT READS IS OF BULK AT MOST 1048576: true; the input reads as it did. -/
def fnExactStretchOfUptoRow : OpenClaim := { program := "ytnbdafecgccojaa", sum := "148957efaf9c8e96661d5c5bec98d4606b554a77fe1b54eea5676f67c062cc47", func := "loop.example/g01254/laws.FnExactStretchOf", spec := "fnExactStretchOf", unfollowed := true, recurses := true, plainKeys := false, apart := false, narrowed := true }
def FnExactStretchOfUptoSaid : Prop := fnExactStretchOfUptoRow.holds Try.pinned (OpenSpec.upto fnExactStretchOfSpec)

/-- 'laws.FnExactMiddleOf', WHERE WHAT IT READS IS OF BULK AT MOST 1048576: true; the input reads as it did. -/
def fnExactMiddleOfUptoRow : OpenClaim := { program := "ytnbdafecgccojaa", sum := "148957efaf9c8e96661d5c5bec98d4606b554a77fe1b54eea5676f67c062cc47", func := "loop.example/g01254/laws.FnExactMiddleOf", spec := "fnExactMiddleOf", unfollowed := true, recurses := true, plainKeys := false, apart := false, narrowed := true }
def FnExactMiddleOfUptoSaid : Prop := fnExactMiddleOfUptoRow.holds Try.pinned (OpenSpec.upto fnExactMiddleOfSpec)

/-- 'laws.FnExactMedianOf', WHERE WHAT IT READS IS OF BULK AT MOST 1048576: true; the input reads as it did. -/
def fnExactMedianOfUptoRow : OpenClaim := { program := "ytnbdafecgccojaa", sum := "148957efaf9c8e96661d5c5bec98d4606b554a77fe1b54eea5676f67c062cc47", func := "loop.example/g01254/laws.FnExactMedianOf", spec := "fnExactMedianOf", unfollowed := true, recurses := true, plainKeys := false, apart := false, narrowed := true }
def FnExactMedianOfUptoSaid : Prop := fnExactMedianOfUptoRow.holds Try.pinned (OpenSpec.upto fnExactMedianOfSpec)

/-- 'laws.FnExactScatterOf', WHERE WHAT IT READS IS OF BULK AT MOST 1048576: true; the input reads as it did. -/
def fnExactScatterOfUptoRow : OpenClaim := { program := "ytnbdafecgccojaa", sum := "148957efaf9c8e96661d5c5bec98d4606b554a77fe1b54eea5676f67c062cc47", func := "loop.example/g01254/laws.FnExactScatterOf", spec := "fnExactScatterOf", unfollowed := true, recurses := true, plainKeys := false, apart := false, narrowed := true }
def FnExactScatterOfUptoSaid : Prop := fnExactScatterOfUptoRow.holds Try.pinned (OpenSpec.upto fnExactScatterOfSpec)

/-- 'laws.FnExactLeaveOut', WHERE WHAT IT READS IS OF BULK AT MOST 1048576: true; the input reads as it did. -/
def fnExactLeaveOutUptoRow : OpenClaim := { program := "ytnbdafecgccojaa", sum := "148957efaf9c8e96661d5c5bec98d4606b554a77fe1b54eea5676f67c062cc47", func := "loop.example/g01254/laws.FnExactLeaveOut", spec := "fnExactLeaveOut", unfollowed := true, recurses := true, plainKeys := false, apart := false, narrowed := true }
def FnExactLeaveOutUptoSaid : Prop := fnExactLeaveOutUptoRow.holds Try.pinned (OpenSpec.upto fnExactLeaveOutSpec)

/-- 'laws.FnExactWithoutObs', WHERE WHAT IT READS IS OF BULK AT MOST 1048576: true; the input reads as it did. -/
def fnExactWithoutObsUptoRow : OpenClaim := { program := "ytnbdafecgccojaa", sum := "148957efaf9c8e96661d5c5bec98d4606b554a77fe1b54eea5676f67c062cc47", func := "loop.example/g01254/laws.FnExactWithoutObs", spec := "fnExactWithoutObs", unfollowed := true, recurses := true, plainKeys := false, apart := false, narrowed := true }
def FnExactWithoutObsUptoSaid : Prop := fnExactWithoutObsUptoRow.holds Try.pinned (OpenSpec.upto fnExactWithoutObsSpec)

/-- 'laws.FnExactPairTable', WHERE WHAT IT READS IS OF BULK AT MOST 1048576: true; the input reads as it did. -/
def fnExactPairTableUptoRow : OpenClaim := { program := "ytnbdafecgccojaa", sum := "148957efaf9c8e96661d5c5bec98d4606b554a77fe1b54eea5676f67c062cc47", func := "loop.example/g01254/laws.FnExactPairTable", spec := "fnExactPairTable", unfollowed := true, recurses := true, plainKeys := false, apart := false, narrowed := true }
def FnExactPairTableUptoSaid : Prop := fnExactPairTableUptoRow.holds Try.pinned (OpenSpec.upto fnExactPairTableSpec)

/-- 'laws.FnExactSquaresOf', WHERE WHAT IT READS IS OF BULK AT MOST 1048576: true; the input reads as it did. -/
def fnExactSquaresOfUptoRow : OpenClaim := { program := "ytnbdafecgccojaa", sum := "148957efaf9c8e96661d5c5bec98d4606b554a77fe1b54eea5676f67c062cc47", func := "loop.example/g01254/laws.FnExactSquaresOf", spec := "fnExactSquaresOf", unfollowed := true, recurses := true, plainKeys := false, apart := false, narrowed := true }
def FnExactSquaresOfUptoSaid : Prop := fnExactSquaresOfUptoRow.holds Try.pinned (OpenSpec.upto fnExactSquaresOfSpec)

/-- 'laws.FnExactCorrectReadings', WHERE WHAT IT READS IS OF BULK AT MOST 1048576: true; the input reads as it did. -/
def fnExactCorrectReadingsUptoRow : OpenClaim := { program := "ytnbdafecgccojaa", sum := "148957efaf9c8e96661d5c5bec98d4606b554a77fe1b54eea5676f67c062cc47", func := "loop.example/g01254/laws.FnExactCorrectReadings", spec := "fnExactCorrectReadings", unfollowed := true, recurses := true, plainKeys := false, apart := false, narrowed := true }
def FnExactCorrectReadingsUptoSaid : Prop := fnExactCorrectReadingsUptoRow.holds Try.pinned (OpenSpec.upto fnExactCorrectReadingsSpec)

/-- 'laws.FnExactValueFrom', WHERE WHAT IT READS IS OF BULK AT MOST 1048576: true; the input reads as it did. -/
def fnExactValueFromUptoRow : OpenClaim := { program := "ytnbdafecgccojaa", sum := "148957efaf9c8e96661d5c5bec98d4606b554a77fe1b54eea5676f67c062cc47", func := "loop.example/g01254/laws.FnExactValueFrom", spec := "fnExactValueFrom", unfollowed := true, recurses := true, plainKeys := false, apart := false, narrowed := true }
def FnExactValueFromUptoSaid : Prop := fnExactValueFromUptoRow.holds Try.pinned (OpenSpec.upto fnExactValueFromSpec)

end Rows
end Go.Proofs.Ytnbdafecgccojaa
