/-
  No cell of these rows narrows 'for every input' (looked for: loops, veiled, ifaces, maps, wideKeys, modest, calm, conditions, laid).
  DERIVED. THE GIVEN ROWS OF THIS SEAT. 12 by the template 'for every input the law returns true; each argument reads behind the call as it read before'; 0 by the template 'total and deterministic' (their statements: YtfcoigdmnmgohaaTotals.lean).
  GIVEN WITH THE SEED: the statements are not yours to turn. If you find one false, say at which input.
  Laid BY PROGRAM, IN A SANDBOX (cutbox-rows.mjs): the forced cells as the released guide's own fill.sh prints them over the translation d46b584c4e30b4f0… (all of the seat's roots in one cut). By AI agents, Wed Nov 11 2026. No macro, syntax, notation, axiom, sorry.
-/
import Derived.Test.YtfcoigdmnmgohaaChecked
import GoSem.Claim
import GoSem.ClaimJoined
import GoSem.ClaimMapViews
import Derived.JoinedTies
import Derived.KernelRfl
namespace Go.Proofs.Ytfcoigdmnmgohaa
/- THE CELL 'sum', in the pinned program and in every row, IS THE sha256 OF THE DUMP (.gsa) THAT YtfcoigdmnmgohaaProg.lean LOADS. Nothing in Lean hashes anything: it is a label: what it is worth is what the hold of that sum in a sandbox is worth. -/
noncomputable def Try.pinned : Pinned := { name := "ytfcoigdmnmgohaa", sum := "d46b584c4e30b4f0c2b5ee7b7320db364953bb54e0e70fe591a26265f8089357", checked := Try.checked }
namespace Rows
def none {H : Type} : Left H := { results := [], args := [] }

/-- 'laws.FnExactSquaresOf': WHATEVER THE INPUT: true; the input reads as it did. -/
def fnExactSquaresOfSpec : ChangeSpec := { name := "fnExactSquaresOf", fn := fun _ => fun
  | [d1, d2] => { results := [.lit (.bool true)], args := [d1, d2] }
  | _ => none }
def fnExactSquaresOfRow : OpenClaim := { program := "ytfcoigdmnmgohaa", sum := "d46b584c4e30b4f0c2b5ee7b7320db364953bb54e0e70fe591a26265f8089357", func := "loop.example/g01254/laws.FnExactSquaresOf", spec := "fnExactSquaresOf", unfollowed := true, recurses := true, plainKeys := false, leaving := true, apart := false }
def FnExactSquaresOfSaid : Prop := fnExactSquaresOfRow.holds Try.pinned (OpenSpec.ofChange fnExactSquaresOfSpec)

/-- ITS FALSE NEIGHBOUR: 'it returns false'. Refute it at one input. -/
def fnExactSquaresOfWrong : ChangeSpec := { name := "fnExactSquaresOf", fn := fun _ => fun
  | [d1, d2] => { results := [.lit (.bool false)], args := [d1, d2] }
  | _ => none }
def FnExactSquaresOfWrongFalsely : Prop := fnExactSquaresOfRow.holds Try.pinned (OpenSpec.ofChange fnExactSquaresOfWrong)

/-- 'laws.FnExactReadingsOf': WHATEVER THE INPUT: true; the input reads as it did. -/
def fnExactReadingsOfSpec : ChangeSpec := { name := "fnExactReadingsOf", fn := fun _ => fun
  | [d1, d2] => { results := [.lit (.bool true)], args := [d1, d2] }
  | _ => none }
def fnExactReadingsOfRow : OpenClaim := { program := "ytfcoigdmnmgohaa", sum := "d46b584c4e30b4f0c2b5ee7b7320db364953bb54e0e70fe591a26265f8089357", func := "loop.example/g01254/laws.FnExactReadingsOf", spec := "fnExactReadingsOf", unfollowed := true, recurses := true, plainKeys := false, leaving := true, apart := false }
def FnExactReadingsOfSaid : Prop := fnExactReadingsOfRow.holds Try.pinned (OpenSpec.ofChange fnExactReadingsOfSpec)

/-- ITS FALSE NEIGHBOUR: 'it returns false'. Refute it at one input. -/
def fnExactReadingsOfWrong : ChangeSpec := { name := "fnExactReadingsOf", fn := fun _ => fun
  | [d1, d2] => { results := [.lit (.bool false)], args := [d1, d2] }
  | _ => none }
def FnExactReadingsOfWrongFalsely : Prop := fnExactReadingsOfRow.holds Try.pinned (OpenSpec.ofChange fnExactReadingsOfWrong)

/-- 'laws.FnExactMedianOf': WHATEVER THE INPUT: true; the input reads as it did. -/
def fnExactMedianOfSpec : ChangeSpec := { name := "fnExactMedianOf", fn := fun _ => fun
  | [d] => { results := [.lit (.bool true)], args := [d] }
  | _ => none }
def fnExactMedianOfRow : OpenClaim := { program := "ytfcoigdmnmgohaa", sum := "d46b584c4e30b4f0c2b5ee7b7320db364953bb54e0e70fe591a26265f8089357", func := "loop.example/g01254/laws.FnExactMedianOf", spec := "fnExactMedianOf", unfollowed := true, recurses := true, plainKeys := false, leaving := true, apart := false }
def FnExactMedianOfSaid : Prop := fnExactMedianOfRow.holds Try.pinned (OpenSpec.ofChange fnExactMedianOfSpec)

/-- ITS FALSE NEIGHBOUR: 'it returns false'. Refute it at one input. -/
def fnExactMedianOfWrong : ChangeSpec := { name := "fnExactMedianOf", fn := fun _ => fun
  | [d] => { results := [.lit (.bool false)], args := [d] }
  | _ => none }
def FnExactMedianOfWrongFalsely : Prop := fnExactMedianOfRow.holds Try.pinned (OpenSpec.ofChange fnExactMedianOfWrong)

/-- 'laws.FnExactScatterOf': WHATEVER THE INPUT: true; the input reads as it did. -/
def fnExactScatterOfSpec : ChangeSpec := { name := "fnExactScatterOf", fn := fun _ => fun
  | [d] => { results := [.lit (.bool true)], args := [d] }
  | _ => none }
def fnExactScatterOfRow : OpenClaim := { program := "ytfcoigdmnmgohaa", sum := "d46b584c4e30b4f0c2b5ee7b7320db364953bb54e0e70fe591a26265f8089357", func := "loop.example/g01254/laws.FnExactScatterOf", spec := "fnExactScatterOf", unfollowed := true, recurses := true, plainKeys := false, leaving := true, apart := false }
def FnExactScatterOfSaid : Prop := fnExactScatterOfRow.holds Try.pinned (OpenSpec.ofChange fnExactScatterOfSpec)

/-- ITS FALSE NEIGHBOUR: 'it returns false'. Refute it at one input. -/
def fnExactScatterOfWrong : ChangeSpec := { name := "fnExactScatterOf", fn := fun _ => fun
  | [d] => { results := [.lit (.bool false)], args := [d] }
  | _ => none }
def FnExactScatterOfWrongFalsely : Prop := fnExactScatterOfRow.holds Try.pinned (OpenSpec.ofChange fnExactScatterOfWrong)

/-- 'laws.FnExactLeaveOut': WHATEVER THE INPUT: true; the input reads as it did. -/
def fnExactLeaveOutSpec : ChangeSpec := { name := "fnExactLeaveOut", fn := fun _ => fun
  | [d1, d2] => { results := [.lit (.bool true)], args := [d1, d2] }
  | _ => none }
def fnExactLeaveOutRow : OpenClaim := { program := "ytfcoigdmnmgohaa", sum := "d46b584c4e30b4f0c2b5ee7b7320db364953bb54e0e70fe591a26265f8089357", func := "loop.example/g01254/laws.FnExactLeaveOut", spec := "fnExactLeaveOut", unfollowed := true, recurses := true, plainKeys := false, leaving := true, apart := false }
def FnExactLeaveOutSaid : Prop := fnExactLeaveOutRow.holds Try.pinned (OpenSpec.ofChange fnExactLeaveOutSpec)

/-- ITS FALSE NEIGHBOUR: 'it returns false'. Refute it at one input. -/
def fnExactLeaveOutWrong : ChangeSpec := { name := "fnExactLeaveOut", fn := fun _ => fun
  | [d1, d2] => { results := [.lit (.bool false)], args := [d1, d2] }
  | _ => none }
def FnExactLeaveOutWrongFalsely : Prop := fnExactLeaveOutRow.holds Try.pinned (OpenSpec.ofChange fnExactLeaveOutWrong)

/-- 'laws.FnExactTrimmedMean': WHATEVER THE INPUT: true; the input reads as it did. -/
def fnExactTrimmedMeanSpec : ChangeSpec := { name := "fnExactTrimmedMean", fn := fun _ => fun
  | [d1, d2] => { results := [.lit (.bool true)], args := [d1, d2] }
  | _ => none }
def fnExactTrimmedMeanRow : OpenClaim := { program := "ytfcoigdmnmgohaa", sum := "d46b584c4e30b4f0c2b5ee7b7320db364953bb54e0e70fe591a26265f8089357", func := "loop.example/g01254/laws.FnExactTrimmedMean", spec := "fnExactTrimmedMean", unfollowed := true, recurses := true, plainKeys := false, leaving := true, apart := false }
def FnExactTrimmedMeanSaid : Prop := fnExactTrimmedMeanRow.holds Try.pinned (OpenSpec.ofChange fnExactTrimmedMeanSpec)

/-- ITS FALSE NEIGHBOUR: 'it returns false'. Refute it at one input. -/
def fnExactTrimmedMeanWrong : ChangeSpec := { name := "fnExactTrimmedMean", fn := fun _ => fun
  | [d1, d2] => { results := [.lit (.bool false)], args := [d1, d2] }
  | _ => none }
def FnExactTrimmedMeanWrongFalsely : Prop := fnExactTrimmedMeanRow.holds Try.pinned (OpenSpec.ofChange fnExactTrimmedMeanWrong)

/-- 'laws.FnExactHabitOf': WHATEVER THE INPUT: true; the input reads as it did. -/
def fnExactHabitOfSpec : ChangeSpec := { name := "fnExactHabitOf", fn := fun _ => fun
  | [d1, d2] => { results := [.lit (.bool true)], args := [d1, d2] }
  | _ => none }
def fnExactHabitOfRow : OpenClaim := { program := "ytfcoigdmnmgohaa", sum := "d46b584c4e30b4f0c2b5ee7b7320db364953bb54e0e70fe591a26265f8089357", func := "loop.example/g01254/laws.FnExactHabitOf", spec := "fnExactHabitOf", unfollowed := true, recurses := true, plainKeys := false, leaving := true, apart := false }
def FnExactHabitOfSaid : Prop := fnExactHabitOfRow.holds Try.pinned (OpenSpec.ofChange fnExactHabitOfSpec)

/-- ITS FALSE NEIGHBOUR: 'it returns false'. Refute it at one input. -/
def fnExactHabitOfWrong : ChangeSpec := { name := "fnExactHabitOf", fn := fun _ => fun
  | [d1, d2] => { results := [.lit (.bool false)], args := [d1, d2] }
  | _ => none }
def FnExactHabitOfWrongFalsely : Prop := fnExactHabitOfRow.holds Try.pinned (OpenSpec.ofChange fnExactHabitOfWrong)

/-- 'laws.FnExactCountHabits': WHATEVER THE INPUT: true; the input reads as it did. -/
def fnExactCountHabitsSpec : ChangeSpec := { name := "fnExactCountHabits", fn := fun _ => fun
  | [d1, d2] => { results := [.lit (.bool true)], args := [d1, d2] }
  | _ => none }
def fnExactCountHabitsRow : OpenClaim := { program := "ytfcoigdmnmgohaa", sum := "d46b584c4e30b4f0c2b5ee7b7320db364953bb54e0e70fe591a26265f8089357", func := "loop.example/g01254/laws.FnExactCountHabits", spec := "fnExactCountHabits", unfollowed := true, recurses := true, plainKeys := false, leaving := true, apart := false }
def FnExactCountHabitsSaid : Prop := fnExactCountHabitsRow.holds Try.pinned (OpenSpec.ofChange fnExactCountHabitsSpec)

/-- ITS FALSE NEIGHBOUR: 'it returns false'. Refute it at one input. -/
def fnExactCountHabitsWrong : ChangeSpec := { name := "fnExactCountHabits", fn := fun _ => fun
  | [d1, d2] => { results := [.lit (.bool false)], args := [d1, d2] }
  | _ => none }
def FnExactCountHabitsWrongFalsely : Prop := fnExactCountHabitsRow.holds Try.pinned (OpenSpec.ofChange fnExactCountHabitsWrong)

/-- 'laws.FnExactWhoRead': WHATEVER THE INPUT: true; the input reads as it did. -/
def fnExactWhoReadSpec : ChangeSpec := { name := "fnExactWhoRead", fn := fun _ => fun
  | [d1, d2, d3] => { results := [.lit (.bool true)], args := [d1, d2, d3] }
  | _ => none }
def fnExactWhoReadRow : OpenClaim := { program := "ytfcoigdmnmgohaa", sum := "d46b584c4e30b4f0c2b5ee7b7320db364953bb54e0e70fe591a26265f8089357", func := "loop.example/g01254/laws.FnExactWhoRead", spec := "fnExactWhoRead", unfollowed := true, recurses := true, plainKeys := false, leaving := true, apart := false }
def FnExactWhoReadSaid : Prop := fnExactWhoReadRow.holds Try.pinned (OpenSpec.ofChange fnExactWhoReadSpec)

/-- ITS FALSE NEIGHBOUR: 'it returns false'. Refute it at one input. -/
def fnExactWhoReadWrong : ChangeSpec := { name := "fnExactWhoRead", fn := fun _ => fun
  | [d1, d2, d3] => { results := [.lit (.bool false)], args := [d1, d2, d3] }
  | _ => none }
def FnExactWhoReadWrongFalsely : Prop := fnExactWhoReadRow.holds Try.pinned (OpenSpec.ofChange fnExactWhoReadWrong)

/-- 'laws.FnExactNearestReader': WHATEVER THE INPUT: true; the input reads as it did. -/
def fnExactNearestReaderSpec : ChangeSpec := { name := "fnExactNearestReader", fn := fun _ => fun
  | [d1, d2, d3] => { results := [.lit (.bool true)], args := [d1, d2, d3] }
  | _ => none }
def fnExactNearestReaderRow : OpenClaim := { program := "ytfcoigdmnmgohaa", sum := "d46b584c4e30b4f0c2b5ee7b7320db364953bb54e0e70fe591a26265f8089357", func := "loop.example/g01254/laws.FnExactNearestReader", spec := "fnExactNearestReader", unfollowed := true, recurses := true, plainKeys := false, leaving := true, apart := false }
def FnExactNearestReaderSaid : Prop := fnExactNearestReaderRow.holds Try.pinned (OpenSpec.ofChange fnExactNearestReaderSpec)

/-- ITS FALSE NEIGHBOUR: 'it returns false'. Refute it at one input. -/
def fnExactNearestReaderWrong : ChangeSpec := { name := "fnExactNearestReader", fn := fun _ => fun
  | [d1, d2, d3] => { results := [.lit (.bool false)], args := [d1, d2, d3] }
  | _ => none }
def FnExactNearestReaderWrongFalsely : Prop := fnExactNearestReaderRow.holds Try.pinned (OpenSpec.ofChange fnExactNearestReaderWrong)

/-- 'laws.FnExactCorrectReadings': WHATEVER THE INPUT: true; the input reads as it did. -/
def fnExactCorrectReadingsSpec : ChangeSpec := { name := "fnExactCorrectReadings", fn := fun _ => fun
  | [d1, d2] => { results := [.lit (.bool true)], args := [d1, d2] }
  | _ => none }
def fnExactCorrectReadingsRow : OpenClaim := { program := "ytfcoigdmnmgohaa", sum := "d46b584c4e30b4f0c2b5ee7b7320db364953bb54e0e70fe591a26265f8089357", func := "loop.example/g01254/laws.FnExactCorrectReadings", spec := "fnExactCorrectReadings", unfollowed := true, recurses := true, plainKeys := false, leaving := true, apart := false }
def FnExactCorrectReadingsSaid : Prop := fnExactCorrectReadingsRow.holds Try.pinned (OpenSpec.ofChange fnExactCorrectReadingsSpec)

/-- ITS FALSE NEIGHBOUR: 'it returns false'. Refute it at one input. -/
def fnExactCorrectReadingsWrong : ChangeSpec := { name := "fnExactCorrectReadings", fn := fun _ => fun
  | [d1, d2] => { results := [.lit (.bool false)], args := [d1, d2] }
  | _ => none }
def FnExactCorrectReadingsWrongFalsely : Prop := fnExactCorrectReadingsRow.holds Try.pinned (OpenSpec.ofChange fnExactCorrectReadingsWrong)

/-- 'laws.FnExactValueFrom': WHATEVER THE INPUT: true; the input reads as it did. -/
def fnExactValueFromSpec : ChangeSpec := { name := "fnExactValueFrom", fn := fun _ => fun
  | [d1, d2] => { results := [.lit (.bool true)], args := [d1, d2] }
  | _ => none }
def fnExactValueFromRow : OpenClaim := { program := "ytfcoigdmnmgohaa", sum := "d46b584c4e30b4f0c2b5ee7b7320db364953bb54e0e70fe591a26265f8089357", func := "loop.example/g01254/laws.FnExactValueFrom", spec := "fnExactValueFrom", unfollowed := true, recurses := true, plainKeys := false, leaving := true, apart := false }
def FnExactValueFromSaid : Prop := fnExactValueFromRow.holds Try.pinned (OpenSpec.ofChange fnExactValueFromSpec)

/-- ITS FALSE NEIGHBOUR: 'it returns false'. Refute it at one input. -/
def fnExactValueFromWrong : ChangeSpec := { name := "fnExactValueFrom", fn := fun _ => fun
  | [d1, d2] => { results := [.lit (.bool false)], args := [d1, d2] }
  | _ => none }
def FnExactValueFromWrongFalsely : Prop := fnExactValueFromRow.holds Try.pinned (OpenSpec.ofChange fnExactValueFromWrong)

/- THE SECOND FORM. 'bulk': how many values and letters a reading holds, each counted each time it is reached (what is shared counts as often as it is met; a slice's spare places count too). A statement '..UptoSaid' is the law's where the arguments, and the package variables that the reading takes, are together of bulk at most 1048576: NARROWER than '..Said'. Prove '..Said' where nothing that the law and all that it calls make is longer than what came in: it says more and counts as full. Else prove '..UptoSaid'. A law counts once. -/
mutual
def uptoBulk {H : Type} : DataW H → Nat
  | .lit (.string bytes) => bytes.length + 1
  | .lit _ => 1
  | .nil => 1
  | .ptr d => uptoBulk d + 1
  | .slice elems spare => uptoBulkAll elems + uptoBulkAll spare + 1
  | .agg parts => uptoBulkAll parts + 1
  | .iface _ d => uptoBulk d + 1
  | .map entries => uptoBulkEntries entries + 1
  | .held _ => 1
def uptoBulkAll {H : Type} : List (DataW H) → Nat
  | [] => 0
  | d :: r => uptoBulk d + uptoBulkAll r
def uptoBulkEntries {H : Type} : List (Lit × DataW H) → Nat
  | [] => 0
  | x :: r => uptoBulkEntry x + uptoBulkEntries r
def uptoBulkEntry {H : Type} : Lit × DataW H → Nat
  | (.string bytes, d) => bytes.length + uptoBulk d + 1
  | (_, d) => uptoBulk d + 1
 end
def uptoSmall : (H : Type) → List (DataW H) → Bool := fun _ ds => decide (uptoBulkAll ds ≤ 1048576)
def OpenSpec.upto (s : _root_.Go.ChangeSpec) : _root_.Go.OpenSpec := { _root_.Go.OpenSpec.ofChange s with cond := some uptoSmall }

/-- 'laws.FnExactSquaresOf', WHERE WHAT IT READS IS OF BULK AT MOST 1048576: true; the input reads as it did. -/
def fnExactSquaresOfUptoRow : OpenClaim := { program := "ytfcoigdmnmgohaa", sum := "d46b584c4e30b4f0c2b5ee7b7320db364953bb54e0e70fe591a26265f8089357", func := "loop.example/g01254/laws.FnExactSquaresOf", spec := "fnExactSquaresOf", unfollowed := true, recurses := true, plainKeys := false, leaving := true, apart := false, narrowed := true }
def FnExactSquaresOfUptoSaid : Prop := fnExactSquaresOfUptoRow.holds Try.pinned (OpenSpec.upto fnExactSquaresOfSpec)

/-- 'laws.FnExactReadingsOf', WHERE WHAT IT READS IS OF BULK AT MOST 1048576: true; the input reads as it did. -/
def fnExactReadingsOfUptoRow : OpenClaim := { program := "ytfcoigdmnmgohaa", sum := "d46b584c4e30b4f0c2b5ee7b7320db364953bb54e0e70fe591a26265f8089357", func := "loop.example/g01254/laws.FnExactReadingsOf", spec := "fnExactReadingsOf", unfollowed := true, recurses := true, plainKeys := false, leaving := true, apart := false, narrowed := true }
def FnExactReadingsOfUptoSaid : Prop := fnExactReadingsOfUptoRow.holds Try.pinned (OpenSpec.upto fnExactReadingsOfSpec)

/-- 'laws.FnExactMedianOf', WHERE WHAT IT READS IS OF BULK AT MOST 1048576: true; the input reads as it did. -/
def fnExactMedianOfUptoRow : OpenClaim := { program := "ytfcoigdmnmgohaa", sum := "d46b584c4e30b4f0c2b5ee7b7320db364953bb54e0e70fe591a26265f8089357", func := "loop.example/g01254/laws.FnExactMedianOf", spec := "fnExactMedianOf", unfollowed := true, recurses := true, plainKeys := false, leaving := true, apart := false, narrowed := true }
def FnExactMedianOfUptoSaid : Prop := fnExactMedianOfUptoRow.holds Try.pinned (OpenSpec.upto fnExactMedianOfSpec)

/-- 'laws.FnExactScatterOf', WHERE WHAT IT READS IS OF BULK AT MOST 1048576: true; the input reads as it did. -/
def fnExactScatterOfUptoRow : OpenClaim := { program := "ytfcoigdmnmgohaa", sum := "d46b584c4e30b4f0c2b5ee7b7320db364953bb54e0e70fe591a26265f8089357", func := "loop.example/g01254/laws.FnExactScatterOf", spec := "fnExactScatterOf", unfollowed := true, recurses := true, plainKeys := false, leaving := true, apart := false, narrowed := true }
def FnExactScatterOfUptoSaid : Prop := fnExactScatterOfUptoRow.holds Try.pinned (OpenSpec.upto fnExactScatterOfSpec)

/-- 'laws.FnExactLeaveOut', WHERE WHAT IT READS IS OF BULK AT MOST 1048576: true; the input reads as it did. -/
def fnExactLeaveOutUptoRow : OpenClaim := { program := "ytfcoigdmnmgohaa", sum := "d46b584c4e30b4f0c2b5ee7b7320db364953bb54e0e70fe591a26265f8089357", func := "loop.example/g01254/laws.FnExactLeaveOut", spec := "fnExactLeaveOut", unfollowed := true, recurses := true, plainKeys := false, leaving := true, apart := false, narrowed := true }
def FnExactLeaveOutUptoSaid : Prop := fnExactLeaveOutUptoRow.holds Try.pinned (OpenSpec.upto fnExactLeaveOutSpec)

/-- 'laws.FnExactTrimmedMean', WHERE WHAT IT READS IS OF BULK AT MOST 1048576: true; the input reads as it did. -/
def fnExactTrimmedMeanUptoRow : OpenClaim := { program := "ytfcoigdmnmgohaa", sum := "d46b584c4e30b4f0c2b5ee7b7320db364953bb54e0e70fe591a26265f8089357", func := "loop.example/g01254/laws.FnExactTrimmedMean", spec := "fnExactTrimmedMean", unfollowed := true, recurses := true, plainKeys := false, leaving := true, apart := false, narrowed := true }
def FnExactTrimmedMeanUptoSaid : Prop := fnExactTrimmedMeanUptoRow.holds Try.pinned (OpenSpec.upto fnExactTrimmedMeanSpec)

/-- 'laws.FnExactHabitOf', WHERE WHAT IT READS IS OF BULK AT MOST 1048576: true; the input reads as it did. -/
def fnExactHabitOfUptoRow : OpenClaim := { program := "ytfcoigdmnmgohaa", sum := "d46b584c4e30b4f0c2b5ee7b7320db364953bb54e0e70fe591a26265f8089357", func := "loop.example/g01254/laws.FnExactHabitOf", spec := "fnExactHabitOf", unfollowed := true, recurses := true, plainKeys := false, leaving := true, apart := false, narrowed := true }
def FnExactHabitOfUptoSaid : Prop := fnExactHabitOfUptoRow.holds Try.pinned (OpenSpec.upto fnExactHabitOfSpec)

/-- 'laws.FnExactCountHabits', WHERE WHAT IT READS IS OF BULK AT MOST 1048576: true; the input reads as it did. -/
def fnExactCountHabitsUptoRow : OpenClaim := { program := "ytfcoigdmnmgohaa", sum := "d46b584c4e30b4f0c2b5ee7b7320db364953bb54e0e70fe591a26265f8089357", func := "loop.example/g01254/laws.FnExactCountHabits", spec := "fnExactCountHabits", unfollowed := true, recurses := true, plainKeys := false, leaving := true, apart := false, narrowed := true }
def FnExactCountHabitsUptoSaid : Prop := fnExactCountHabitsUptoRow.holds Try.pinned (OpenSpec.upto fnExactCountHabitsSpec)

/-- 'laws.FnExactWhoRead', WHERE WHAT IT READS IS OF BULK AT MOST 1048576: true; the input reads as it did. -/
def fnExactWhoReadUptoRow : OpenClaim := { program := "ytfcoigdmnmgohaa", sum := "d46b584c4e30b4f0c2b5ee7b7320db364953bb54e0e70fe591a26265f8089357", func := "loop.example/g01254/laws.FnExactWhoRead", spec := "fnExactWhoRead", unfollowed := true, recurses := true, plainKeys := false, leaving := true, apart := false, narrowed := true }
def FnExactWhoReadUptoSaid : Prop := fnExactWhoReadUptoRow.holds Try.pinned (OpenSpec.upto fnExactWhoReadSpec)

/-- 'laws.FnExactNearestReader', WHERE WHAT IT READS IS OF BULK AT MOST 1048576: true; the input reads as it did. -/
def fnExactNearestReaderUptoRow : OpenClaim := { program := "ytfcoigdmnmgohaa", sum := "d46b584c4e30b4f0c2b5ee7b7320db364953bb54e0e70fe591a26265f8089357", func := "loop.example/g01254/laws.FnExactNearestReader", spec := "fnExactNearestReader", unfollowed := true, recurses := true, plainKeys := false, leaving := true, apart := false, narrowed := true }
def FnExactNearestReaderUptoSaid : Prop := fnExactNearestReaderUptoRow.holds Try.pinned (OpenSpec.upto fnExactNearestReaderSpec)

/-- 'laws.FnExactCorrectReadings', WHERE WHAT IT READS IS OF BULK AT MOST 1048576: true; the input reads as it did. -/
def fnExactCorrectReadingsUptoRow : OpenClaim := { program := "ytfcoigdmnmgohaa", sum := "d46b584c4e30b4f0c2b5ee7b7320db364953bb54e0e70fe591a26265f8089357", func := "loop.example/g01254/laws.FnExactCorrectReadings", spec := "fnExactCorrectReadings", unfollowed := true, recurses := true, plainKeys := false, leaving := true, apart := false, narrowed := true }
def FnExactCorrectReadingsUptoSaid : Prop := fnExactCorrectReadingsUptoRow.holds Try.pinned (OpenSpec.upto fnExactCorrectReadingsSpec)

/-- 'laws.FnExactValueFrom', WHERE WHAT IT READS IS OF BULK AT MOST 1048576: true; the input reads as it did. -/
def fnExactValueFromUptoRow : OpenClaim := { program := "ytfcoigdmnmgohaa", sum := "d46b584c4e30b4f0c2b5ee7b7320db364953bb54e0e70fe591a26265f8089357", func := "loop.example/g01254/laws.FnExactValueFrom", spec := "fnExactValueFrom", unfollowed := true, recurses := true, plainKeys := false, leaving := true, apart := false, narrowed := true }
def FnExactValueFromUptoSaid : Prop := fnExactValueFromUptoRow.holds Try.pinned (OpenSpec.upto fnExactValueFromSpec)

end Rows
end Go.Proofs.Ytfcoigdmnmgohaa
