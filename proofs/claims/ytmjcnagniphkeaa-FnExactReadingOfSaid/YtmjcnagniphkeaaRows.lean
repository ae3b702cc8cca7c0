/-
  No cell of these rows narrows 'for every input' (looked for: loops, veiled, ifaces, maps, wideKeys, modest, calm, conditions, laid).
  DERIVED. THE GIVEN ROWS OF THIS SEAT. 12 by the template 'for every input the law returns true; each argument reads behind the call as it read before'; 0 by the template 'total and deterministic' (their statements: YtmjcnagniphkeaaTotals.lean).
  GIVEN WITH THE SEED: the statements are not yours to turn. If you find one false, say at which input.
  Laid BY PROGRAM, IN A SANDBOX (cutbox-rows.mjs): the forced cells as the released guide's own fill.sh prints them over the translation 1bf540903b88aed3… (all of the seat's roots in one cut). By AI agents, Wed Nov 11 2026. No macro, syntax, notation, axiom, sorry.
-/
import Derived.Test.YtmjcnagniphkeaaChecked
import GoSem.Claim
import GoSem.ClaimJoined
import GoSem.ClaimMapViews
import Derived.JoinedTies
import Derived.KernelRfl
namespace Go.Proofs.Ytmjcnagniphkeaa
/- THE CELL 'sum', in the pinned program and in every row, IS THE sha256 OF THE DUMP (.gsa) THAT YtmjcnagniphkeaaProg.lean LOADS. Nothing in Lean hashes anything: it is a label: what it is worth is what the hold of that sum in a sandbox is worth. -/
noncomputable def Try.pinned : Pinned := { name := "ytmjcnagniphkeaa", sum := "1bf540903b88aed3af0f9281833316a24bd4bf4454bc5449f146627fefd6515a", checked := Try.checked }
namespace Rows
def none {H : Type} : Left H := { results := [], args := [] }

/-- 'laws.FnExactMeanOf': WHATEVER THE INPUT: true; the input reads as it did. -/
def fnExactMeanOfSpec : ChangeSpec := { name := "fnExactMeanOf", fn := fun _ => fun
  | [d] => { results := [.lit (.bool true)], args := [d] }
  | _ => none }
def fnExactMeanOfRow : OpenClaim := { program := "ytmjcnagniphkeaa", sum := "1bf540903b88aed3af0f9281833316a24bd4bf4454bc5449f146627fefd6515a", func := "loop.example/g01254/laws.FnExactMeanOf", spec := "fnExactMeanOf", unfollowed := true, recurses := true, plainKeys := false, apart := false }
def FnExactMeanOfSaid : Prop := fnExactMeanOfRow.holds Try.pinned (OpenSpec.ofChange fnExactMeanOfSpec)

/-- ITS FALSE NEIGHBOUR: 'it returns false'. Refute it at one input. -/
def fnExactMeanOfWrong : ChangeSpec := { name := "fnExactMeanOf", fn := fun _ => fun
  | [d] => { results := [.lit (.bool false)], args := [d] }
  | _ => none }
def FnExactMeanOfWrongFalsely : Prop := fnExactMeanOfRow.holds Try.pinned (OpenSpec.ofChange fnExactMeanOfWrong)

/-- 'laws.FnExactMiddleOf': WHATEVER THE INPUT: true; the input reads as it did. -/
def fnExactMiddleOfSpec : ChangeSpec := { name := "fnExactMiddleOf", fn := fun _ => fun
  | [d] => { results := [.lit (.bool true)], args := [d] }
  | _ => none }
def fnExactMiddleOfRow : OpenClaim := { program := "ytmjcnagniphkeaa", sum := "1bf540903b88aed3af0f9281833316a24bd4bf4454bc5449f146627fefd6515a", func := "loop.example/g01254/laws.FnExactMiddleOf", spec := "fnExactMiddleOf", unfollowed := true, recurses := true, plainKeys := false, apart := false }
def FnExactMiddleOfSaid : Prop := fnExactMiddleOfRow.holds Try.pinned (OpenSpec.ofChange fnExactMiddleOfSpec)

/-- ITS FALSE NEIGHBOUR: 'it returns false'. Refute it at one input. -/
def fnExactMiddleOfWrong : ChangeSpec := { name := "fnExactMiddleOf", fn := fun _ => fun
  | [d] => { results := [.lit (.bool false)], args := [d] }
  | _ => none }
def FnExactMiddleOfWrongFalsely : Prop := fnExactMiddleOfRow.holds Try.pinned (OpenSpec.ofChange fnExactMiddleOfWrong)

/-- 'laws.FnExactHullOf': WHATEVER THE INPUT: true; the input reads as it did. -/
def fnExactHullOfSpec : ChangeSpec := { name := "fnExactHullOf", fn := fun _ => fun
  | [d] => { results := [.lit (.bool true)], args := [d] }
  | _ => none }
def fnExactHullOfRow : OpenClaim := { program := "ytmjcnagniphkeaa", sum := "1bf540903b88aed3af0f9281833316a24bd4bf4454bc5449f146627fefd6515a", func := "loop.example/g01254/laws.FnExactHullOf", spec := "fnExactHullOf", unfollowed := true, recurses := true, plainKeys := false, apart := false }
def FnExactHullOfSaid : Prop := fnExactHullOfRow.holds Try.pinned (OpenSpec.ofChange fnExactHullOfSpec)

/-- ITS FALSE NEIGHBOUR: 'it returns false'. Refute it at one input. -/
def fnExactHullOfWrong : ChangeSpec := { name := "fnExactHullOf", fn := fun _ => fun
  | [d] => { results := [.lit (.bool false)], args := [d] }
  | _ => none }
def FnExactHullOfWrongFalsely : Prop := fnExactHullOfRow.holds Try.pinned (OpenSpec.ofChange fnExactHullOfWrong)

/-- 'laws.FnExactWithoutObs': WHATEVER THE INPUT: true; the input reads as it did. -/
def fnExactWithoutObsSpec : ChangeSpec := { name := "fnExactWithoutObs", fn := fun _ => fun
  | [d1, d2] => { results := [.lit (.bool true)], args := [d1, d2] }
  | _ => none }
def fnExactWithoutObsRow : OpenClaim := { program := "ytmjcnagniphkeaa", sum := "1bf540903b88aed3af0f9281833316a24bd4bf4454bc5449f146627fefd6515a", func := "loop.example/g01254/laws.FnExactWithoutObs", spec := "fnExactWithoutObs", unfollowed := true, recurses := true, plainKeys := false, apart := false }
def FnExactWithoutObsSaid : Prop := fnExactWithoutObsRow.holds Try.pinned (OpenSpec.ofChange fnExactWithoutObsSpec)

/-- ITS FALSE NEIGHBOUR: 'it returns false'. Refute it at one input. -/
def fnExactWithoutObsWrong : ChangeSpec := { name := "fnExactWithoutObs", fn := fun _ => fun
  | [d1, d2] => { results := [.lit (.bool false)], args := [d1, d2] }
  | _ => none }
def FnExactWithoutObsWrongFalsely : Prop := fnExactWithoutObsRow.holds Try.pinned (OpenSpec.ofChange fnExactWithoutObsWrong)

/-- 'laws.FnExactPairTable': WHATEVER THE INPUT: true; the input reads as it did. -/
def fnExactPairTableSpec : ChangeSpec := { name := "fnExactPairTable", fn := fun _ => fun
  | [d] => { results := [.lit (.bool true)], args := [d] }
  | _ => none }
def fnExactPairTableRow : OpenClaim := { program := "ytmjcnagniphkeaa", sum := "1bf540903b88aed3af0f9281833316a24bd4bf4454bc5449f146627fefd6515a", func := "loop.example/g01254/laws.FnExactPairTable", spec := "fnExactPairTable", unfollowed := true, recurses := true, plainKeys := false, apart := false }
def FnExactPairTableSaid : Prop := fnExactPairTableRow.holds Try.pinned (OpenSpec.ofChange fnExactPairTableSpec)

/-- ITS FALSE NEIGHBOUR: 'it returns false'. Refute it at one input. -/
def fnExactPairTableWrong : ChangeSpec := { name := "fnExactPairTable", fn := fun _ => fun
  | [d] => { results := [.lit (.bool false)], args := [d] }
  | _ => none }
def FnExactPairTableWrongFalsely : Prop := fnExactPairTableRow.holds Try.pinned (OpenSpec.ofChange fnExactPairTableWrong)

/-- 'laws.FnExactValidReader': WHATEVER THE INPUT: true; the input reads as it did. -/
def fnExactValidReaderSpec : ChangeSpec := { name := "fnExactValidReader", fn := fun _ => fun
  | [d] => { results := [.lit (.bool true)], args := [d] }
  | _ => none }
def fnExactValidReaderRow : OpenClaim := { program := "ytmjcnagniphkeaa", sum := "1bf540903b88aed3af0f9281833316a24bd4bf4454bc5449f146627fefd6515a", func := "loop.example/g01254/laws.FnExactValidReader", spec := "fnExactValidReader", unfollowed := true, recurses := true, plainKeys := false, apart := false }
def FnExactValidReaderSaid : Prop := fnExactValidReaderRow.holds Try.pinned (OpenSpec.ofChange fnExactValidReaderSpec)

/-- ITS FALSE NEIGHBOUR: 'it returns false'. Refute it at one input. -/
def fnExactValidReaderWrong : ChangeSpec := { name := "fnExactValidReader", fn := fun _ => fun
  | [d] => { results := [.lit (.bool false)], args := [d] }
  | _ => none }
def FnExactValidReaderWrongFalsely : Prop := fnExactValidReaderRow.holds Try.pinned (OpenSpec.ofChange fnExactValidReaderWrong)

/-- 'laws.FnExactReadingOf': WHATEVER THE INPUT: true; the input reads as it did. -/
def fnExactReadingOfSpec : ChangeSpec := { name := "fnExactReadingOf", fn := fun _ => fun
  | [d1, d2] => { results := [.lit (.bool true)], args := [d1, d2] }
  | _ => none }
def fnExactReadingOfRow : OpenClaim := { program := "ytmjcnagniphkeaa", sum := "1bf540903b88aed3af0f9281833316a24bd4bf4454bc5449f146627fefd6515a", func := "loop.example/g01254/laws.FnExactReadingOf", spec := "fnExactReadingOf", unfollowed := true, recurses := true, plainKeys := false, apart := false }
def FnExactReadingOfSaid : Prop := fnExactReadingOfRow.holds Try.pinned (OpenSpec.ofChange fnExactReadingOfSpec)

/-- ITS FALSE NEIGHBOUR: 'it returns false'. Refute it at one input. -/
def fnExactReadingOfWrong : ChangeSpec := { name := "fnExactReadingOf", fn := fun _ => fun
  | [d1, d2] => { results := [.lit (.bool false)], args := [d1, d2] }
  | _ => none }
def FnExactReadingOfWrongFalsely : Prop := fnExactReadingOfRow.holds Try.pinned (OpenSpec.ofChange fnExactReadingOfWrong)

/-- 'laws.FnExactLastDigits': WHATEVER THE INPUT: true; the input reads as it did. -/
def fnExactLastDigitsSpec : ChangeSpec := { name := "fnExactLastDigits", fn := fun _ => fun
  | [d] => { results := [.lit (.bool true)], args := [d] }
  | _ => none }
def fnExactLastDigitsRow : OpenClaim := { program := "ytmjcnagniphkeaa", sum := "1bf540903b88aed3af0f9281833316a24bd4bf4454bc5449f146627fefd6515a", func := "loop.example/g01254/laws.FnExactLastDigits", spec := "fnExactLastDigits", unfollowed := true, recurses := true, plainKeys := false, apart := false }
def FnExactLastDigitsSaid : Prop := fnExactLastDigitsRow.holds Try.pinned (OpenSpec.ofChange fnExactLastDigitsSpec)

/-- ITS FALSE NEIGHBOUR: 'it returns false'. Refute it at one input. -/
def fnExactLastDigitsWrong : ChangeSpec := { name := "fnExactLastDigits", fn := fun _ => fun
  | [d] => { results := [.lit (.bool false)], args := [d] }
  | _ => none }
def FnExactLastDigitsWrongFalsely : Prop := fnExactLastDigitsRow.holds Try.pinned (OpenSpec.ofChange fnExactLastDigitsWrong)

/-- 'laws.FnExactLikedDigit': WHATEVER THE INPUT: true; the input reads as it did. -/
def fnExactLikedDigitSpec : ChangeSpec := { name := "fnExactLikedDigit", fn := fun _ => fun
  | [d] => { results := [.lit (.bool true)], args := [d] }
  | _ => none }
def fnExactLikedDigitRow : OpenClaim := { program := "ytmjcnagniphkeaa", sum := "1bf540903b88aed3af0f9281833316a24bd4bf4454bc5449f146627fefd6515a", func := "loop.example/g01254/laws.FnExactLikedDigit", spec := "fnExactLikedDigit", unfollowed := true, recurses := true, plainKeys := false, apart := false }
def FnExactLikedDigitSaid : Prop := fnExactLikedDigitRow.holds Try.pinned (OpenSpec.ofChange fnExactLikedDigitSpec)

/-- ITS FALSE NEIGHBOUR: 'it returns false'. Refute it at one input. -/
def fnExactLikedDigitWrong : ChangeSpec := { name := "fnExactLikedDigit", fn := fun _ => fun
  | [d] => { results := [.lit (.bool false)], args := [d] }
  | _ => none }
def FnExactLikedDigitWrongFalsely : Prop := fnExactLikedDigitRow.holds Try.pinned (OpenSpec.ofChange fnExactLikedDigitWrong)

/-- 'laws.FnExactUnitSeen': WHATEVER THE INPUT: true; the input reads as it did. -/
def fnExactUnitSeenSpec : ChangeSpec := { name := "fnExactUnitSeen", fn := fun _ => fun
  | [d] => { results := [.lit (.bool true)], args := [d] }
  | _ => none }
def fnExactUnitSeenRow : OpenClaim := { program := "ytmjcnagniphkeaa", sum := "1bf540903b88aed3af0f9281833316a24bd4bf4454bc5449f146627fefd6515a", func := "loop.example/g01254/laws.FnExactUnitSeen", spec := "fnExactUnitSeen", unfollowed := true, recurses := true, plainKeys := false, apart := false }
def FnExactUnitSeenSaid : Prop := fnExactUnitSeenRow.holds Try.pinned (OpenSpec.ofChange fnExactUnitSeenSpec)

/-- ITS FALSE NEIGHBOUR: 'it returns false'. Refute it at one input. -/
def fnExactUnitSeenWrong : ChangeSpec := { name := "fnExactUnitSeen", fn := fun _ => fun
  | [d] => { results := [.lit (.bool false)], args := [d] }
  | _ => none }
def FnExactUnitSeenWrongFalsely : Prop := fnExactUnitSeenRow.holds Try.pinned (OpenSpec.ofChange fnExactUnitSeenWrong)

/-- 'laws.FnExactExplains': WHATEVER THE INPUT: true; the input reads as it did. -/
def fnExactExplainsSpec : ChangeSpec := { name := "fnExactExplains", fn := fun _ => fun
  | [d1, d2, d3] => { results := [.lit (.bool true)], args := [d1, d2, d3] }
  | _ => none }
def fnExactExplainsRow : OpenClaim := { program := "ytmjcnagniphkeaa", sum := "1bf540903b88aed3af0f9281833316a24bd4bf4454bc5449f146627fefd6515a", func := "loop.example/g01254/laws.FnExactExplains", spec := "fnExactExplains", unfollowed := true, recurses := true, plainKeys := false, apart := false }
def FnExactExplainsSaid : Prop := fnExactExplainsRow.holds Try.pinned (OpenSpec.ofChange fnExactExplainsSpec)

/-- ITS FALSE NEIGHBOUR: 'it returns false'. Refute it at one input. -/
def fnExactExplainsWrong : ChangeSpec := { name := "fnExactExplains", fn := fun _ => fun
  | [d1, d2, d3] => { results := [.lit (.bool false)], args := [d1, d2, d3] }
  | _ => none }
def FnExactExplainsWrongFalsely : Prop := fnExactExplainsRow.holds Try.pinned (OpenSpec.ofChange fnExactExplainsWrong)

/-- 'laws.FnExactMeanDifference': WHATEVER THE INPUT: true; the input reads as it did. -/
def fnExactMeanDifferenceSpec : ChangeSpec := { name := "fnExactMeanDifference", fn := fun _ => fun
  | [d1, d2] => { results := [.lit (.bool true)], args := [d1, d2] }
  | _ => none }
def fnExactMeanDifferenceRow : OpenClaim := { program := "ytmjcnagniphkeaa", sum := "1bf540903b88aed3af0f9281833316a24bd4bf4454bc5449f146627fefd6515a", func := "loop.example/g01254/laws.FnExactMeanDifference", spec := "fnExactMeanDifference", unfollowed := true, recurses := true, plainKeys := false, apart := false }
def FnExactMeanDifferenceSaid : Prop := fnExactMeanDifferenceRow.holds Try.pinned (OpenSpec.ofChange fnExactMeanDifferenceSpec)

/-- ITS FALSE NEIGHBOUR: 'it returns false'. Refute it at one input. -/
def fnExactMeanDifferenceWrong : ChangeSpec := { name := "fnExactMeanDifference", fn := fun _ => fun
  | [d1, d2] => { results := [.lit (.bool false)], args := [d1, d2] }
  | _ => none }
def FnExactMeanDifferenceWrongFalsely : Prop := fnExactMeanDifferenceRow.holds Try.pinned (OpenSpec.ofChange fnExactMeanDifferenceWrong)

/- THE SECOND FORM. 'bulk': how many values and letters a reading holds, each counted each time it is reached (what is shared counts as often as it is met; a slice's spare places count too). A statement '..UptoSaid' is the law's where the arguments, and the package variables that the reading takes, are together of bulk at most 1048576: NARROWER than '..Said'. Prove '..Said' where nothing that the law and all that it calls make is longer than what came in: it says more and counts as full. Else prove '..UptoSaid'. A law counts once. -/
mutual
def uptoBulk {H : Type} : DataW H → Nat
  | .lit (.string bytes) => bytes.length + 1
  | .lit _ => 1
  | .nil => 1
  | .ptr d => uptoBulk d + 1
  | .slice elems spare => uptoBulkAll elems + uptoBulkAll spare + 1
  | .agg parts => uptoBulkAll parts + 1
  | .iface _ d => uptoBulk d + 1
  | .map entries => uptoBulkEntries entries + 1
  | .held _ => 1
def uptoBulkAll {H : Type} : List (DataW H) → Nat
  | [] => 0
  | d :: r => uptoBulk d + uptoBulkAll r
def uptoBulkEntries {H : Type} : List (Lit × DataW H) → Nat
  | [] => 0
  | x :: r => uptoBulkEntry x + uptoBulkEntries r
def uptoBulkEntry {H : Type} : Lit × DataW H → Nat
  | (.string bytes, d) => bytes.length + uptoBulk d + 1
  | (_, d) => uptoBulk d + 1
 end
def uptoSmall : (H : Type) → List (DataW H) → Bool := fun _ ds => decide (uptoBulkAll ds ≤ 1048576)
def OpenSpec.upto (s : _root_.Go.ChangeSpec) : _root_.Go.OpenSpec := { _root_.Go.OpenSpec.ofChange s with cond := some uptoSmall }

/-- 'laws.FnExactMeanOf', WHERE WHAT IT READS IS OF BULK AT MOST 1048576: true; the input reads as it did. -/
def fnExactMeanOfUptoRow : OpenClaim := { program := "ytmjcnagniphkeaa", sum := "1bf540903b88aed3af0f9281833316a24bd4bf4454bc5449f146627fefd6515a", func := "loop.example/g01254/laws.FnExactMeanOf", spec := "fnExactMeanOf", unfollowed := true, recurses := true, plainKeys := false, apart := false, narrowed := true }
def FnExactMeanOfUptoSaid : Prop := fnExactMeanOfUptoRow.holds Try.pinned (OpenSpec.upto fnExactMeanOfSpec)

/-- 'laws.FnExactMiddleOf', WHERE WHAT IT READS IS OF BULK AT MOST 1048576: true; the input reads as it did. -/
def fnExactMiddleOfUptoRow : OpenClaim := { program := "ytmjcnagniphkeaa", sum := "1bf540903b88aed3af0f9281833316a24bd4bf4454bc5449f146627fefd6515a", func := "loop.example/g01254/laws.FnExactMiddleOf", spec := "fnExactMiddleOf", unfollowed := true, recurses := true, plainKeys := false, apart := false, narrowed := true }
def FnExactMiddleOfUptoSaid : Prop := fnExactMiddleOfUptoRow.holds Try.pinned (OpenSpec.upto fnExactMiddleOfSpec)

/-- 'laws.FnExactHullOf', WHERE WHAT IT READS IS OF BULK AT MOST 1048576: true; the input reads as it did. -/
def fnExactHullOfUptoRow : OpenClaim := { program := "ytmjcnagniphkeaa", sum := "1bf540903b88aed3af0f9281833316a24bd4bf4454bc5449f146627fefd6515a", func := "loop.example/g01254/laws.FnExactHullOf", spec := "fnExactHullOf", unfollowed := true, recurses := true, plainKeys := false, apart := false, narrowed := true }
def FnExactHullOfUptoSaid : Prop := fnExactHullOfUptoRow.holds Try.pinned (OpenSpec.upto fnExactHullOfSpec)

/-- 'laws.FnExactWithoutObs', WHERE WHAT IT READS IS OF BULK AT MOST 1048576: true; the input reads as it did. -/
def fnExactWithoutObsUptoRow : OpenClaim := { program := "ytmjcnagniphkeaa", sum := "1bf540903b88aed3af0f9281833316a24bd4bf4454bc5449f146627fefd6515a", func := "loop.example/g01254/laws.FnExactWithoutObs", spec := "fnExactWithoutObs", unfollowed := true, recurses := true, plainKeys := false, apart := false, narrowed := true }
def FnExactWithoutObsUptoSaid : Prop := fnExactWithoutObsUptoRow.holds Try.pinned (OpenSpec.upto fnExactWithoutObsSpec)

/-- 'laws.FnExactPairTable', WHERE WHAT IT READS IS OF BULK AT MOST 1048576: true; the input reads as it did. -/
def fnExactPairTableUptoRow : OpenClaim := { program := "ytmjcnagniphkeaa", sum := "1bf540903b88aed3af0f9281833316a24bd4bf4454bc5449f146627fefd6515a", func := "loop.example/g01254/laws.FnExactPairTable", spec := "fnExactPairTable", unfollowed := true, recurses := true, plainKeys := false, apart := false, narrowed := true }
def FnExactPairTableUptoSaid : Prop := fnExactPairTableUptoRow.holds Try.pinned (OpenSpec.upto fnExactPairTableSpec)

/-- 'laws.FnExactValidReader', WHERE WHAT IT READS IS OF BULK AT MOST 1048576: true; the input reads as it did. -/
def fnExactValidReaderUptoRow : OpenClaim := { program := "ytmjcnagniphkeaa", sum := "1bf540903b88aed3af0f9281833316a24bd4bf4454bc5449f146627fefd6515a", func := "loop.example/g01254/laws.FnExactValidReader", spec := "fnExactValidReader", unfollowed := true, recurses := true, plainKeys := false, apart := false, narrowed := true }
def FnExactValidReaderUptoSaid : Prop := fnExactValidReaderUptoRow.holds Try.pinned (OpenSpec.upto fnExactValidReaderSpec)

/-- 'laws.FnExactReadingOf', WHERE WHAT IT READS IS OF BULK AT MOST 1048576: true; the input reads as it did. -/
def fnExactReadingOfUptoRow : OpenClaim := { program := "ytmjcnagniphkeaa", sum := "1bf540903b88aed3af0f9281833316a24bd4bf4454bc5449f146627fefd6515a", func := "loop.example/g01254/laws.FnExactReadingOf", spec := "fnExactReadingOf", unfollowed := true, recurses := true, plainKeys := false, apart := false, narrowed := true }
def FnExactReadingOfUptoSaid : Prop := fnExactReadingOfUptoRow.holds Try.pinned (OpenSpec.upto fnExactReadingOfSpec)

/-- 'laws.FnExactLastDigits', WHERE WHAT IT READS IS OF BULK AT MOST 1048576: true; the input reads as it did. -/
def fnExactLastDigitsUptoRow : OpenClaim := { program := "ytmjcnagniphkeaa", sum := "1bf540903b88aed3af0f9281833316a24bd4bf4454bc5449f146627fefd6515a", func := "loop.example/g01254/laws.FnExactLastDigits", spec := "fnExactLastDigits", unfollowed := true, recurses := true, plainKeys := false, apart := false, narrowed := true }
def FnExactLastDigitsUptoSaid : Prop := fnExactLastDigitsUptoRow.holds Try.pinned (OpenSpec.upto fnExactLastDigitsSpec)

/-- 'laws.FnExactLikedDigit', WHERE WHAT IT READS IS OF BULK AT MOST 1048576: true; the input reads as it did. -/
def fnExactLikedDigitUptoRow : OpenClaim := { program := "ytmjcnagniphkeaa", sum := "1bf540903b88aed3af0f9281833316a24bd4bf4454bc5449f146627fefd6515a", func := "loop.example/g01254/laws.FnExactLikedDigit", spec := "fnExactLikedDigit", unfollowed := true, recurses := true, plainKeys := false, apart := false, narrowed := true }
def FnExactLikedDigitUptoSaid : Prop := fnExactLikedDigitUptoRow.holds Try.pinned (OpenSpec.upto fnExactLikedDigitSpec)

/-- 'laws.FnExactUnitSeen', WHERE WHAT IT READS IS OF BULK AT MOST 1048576: true; the input reads as it did. -/
def fnExactUnitSeenUptoRow : OpenClaim := { program := "ytmjcnagniphkeaa", sum := "1bf540903b88aed3af0f9281833316a24bd4bf4454bc5449f146627fefd6515a", func := "loop.example/g01254/laws.FnExactUnitSeen", spec := "fnExactUnitSeen", unfollowed := true, recurses := true, plainKeys := false, apart := false, narrowed := true }
def FnExactUnitSeenUptoSaid : Prop := fnExactUnitSeenUptoRow.holds Try.pinned (OpenSpec.upto fnExactUnitSeenSpec)

/-- 'laws.FnExactExplains', WHERE WHAT IT READS IS OF BULK AT MOST 1048576: true; the input reads as it did. -/
def fnExactExplainsUptoRow : OpenClaim := { program := "ytmjcnagniphkeaa", sum := "1bf540903b88aed3af0f9281833316a24bd4bf4454bc5449f146627fefd6515a", func := "loop.example/g01254/laws.FnExactExplains", spec := "fnExactExplains", unfollowed := true, recurses := true, plainKeys := false, apart := false, narrowed := true }
def FnExactExplainsUptoSaid : Prop := fnExactExplainsUptoRow.holds Try.pinned (OpenSpec.upto fnExactExplainsSpec)

/-- 'laws.FnExactMeanDifference', WHERE WHAT IT READS IS OF BULK AT MOST 1048576: true; the input reads as it did. -/
def fnExactMeanDifferenceUptoRow : OpenClaim := { program := "ytmjcnagniphkeaa", sum := "1bf540903b88aed3af0f9281833316a24bd4bf4454bc5449f146627fefd6515a", func := "loop.example/g01254/laws.FnExactMeanDifference", spec := "fnExactMeanDifference", unfollowed := true, recurses := true, plainKeys := false, apart := false, narrowed := true }
def FnExactMeanDifferenceUptoSaid : Prop := fnExactMeanDifferenceUptoRow.holds Try.pinned (OpenSpec.upto fnExactMeanDifferenceSpec)

end Rows
end Go.Proofs.Ytmjcnagniphkeaa
