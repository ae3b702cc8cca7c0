/-
  No cell of these rows narrows 'for every input' (looked for: loops, veiled, ifaces, maps, wideKeys, modest, calm, conditions, laid).
  DERIVED. THE GIVEN ROWS OF THIS SEAT. 12 by the template 'for every input the law returns true; each argument reads behind the call as it read before'; 0 by the template 'total and deterministic' (their statements: YteeadoglbkociaaTotals.lean).
  GIVEN WITH THE SEED: the statements are not yours to turn. If you find one false, say at which input.
  Laid BY PROGRAM, IN A SANDBOX (cutbox-rows.mjs): the forced cells as the released guide's own fill.sh prints them over the translation 9cce01493eafa27d… (all of the seat's roots in one cut). By AI agents, Wed Nov 11 2026. No macro, syntax, notation, axiom, sorry.
-/
import Derived.Test.YteeadoglbkociaaChecked
import GoSem.Claim
import GoSem.ClaimJoined
import GoSem.ClaimMapViews
import Derived.JoinedTies
import Derived.KernelRfl
namespace Go.Proofs.Yteeadoglbkociaa
/- THE CELL 'sum', in the pinned program and in every row, IS THE sha256 OF THE DUMP (.gsa) THAT YteeadoglbkociaaProg.lean LOADS. Nothing in Lean hashes anything: it is a label: what it is worth is what the hold of that sum in a sandbox is worth. -/
noncomputable def Try.pinned : Pinned := { name := "yteeadoglbkociaa", sum := "9cce01493eafa27d1ebe472b9e7a0f115baf3f36989b4821514f923347265140", checked := Try.checked }
namespace Rows
def none {H : Type} : Left H := { results := [], args := [] }

/-- 'laws.FnExactHullOf': WHATEVER THE INPUT: true; the input reads as it did. -/
def fnExactHullOfSpec : ChangeSpec := { name := "fnExactHullOf", fn := fun _ => fun
  | [d] => { results := [.lit (.bool true)], args := [d] }
  | _ => none }
def fnExactHullOfRow : OpenClaim := { program := "yteeadoglbkociaa", sum := "9cce01493eafa27d1ebe472b9e7a0f115baf3f36989b4821514f923347265140", func := "loop.example/g01254/laws.FnExactHullOf", spec := "fnExactHullOf", unfollowed := true, recurses := true, plainKeys := false, apart := false }
def FnExactHullOfSaid : Prop := fnExactHullOfRow.holds Try.pinned (OpenSpec.ofChange fnExactHullOfSpec)

/-- ITS FALSE NEIGHBOUR: 'it returns false'. Refute it at one input. -/
def fnExactHullOfWrong : ChangeSpec := { name := "fnExactHullOf", fn := fun _ => fun
  | [d] => { results := [.lit (.bool false)], args := [d] }
  | _ => none }
def FnExactHullOfWrongFalsely : Prop := fnExactHullOfRow.holds Try.pinned (OpenSpec.ofChange fnExactHullOfWrong)

/-- 'laws.FnExactMulSpans': WHATEVER THE INPUT: true; the input reads as it did. -/
def fnExactMulSpansSpec : ChangeSpec := { name := "fnExactMulSpans", fn := fun _ => fun
  | [d1, d2] => { results := [.lit (.bool true)], args := [d1, d2] }
  | _ => none }
def fnExactMulSpansRow : OpenClaim := { program := "yteeadoglbkociaa", sum := "9cce01493eafa27d1ebe472b9e7a0f115baf3f36989b4821514f923347265140", func := "loop.example/g01254/laws.FnExactMulSpans", spec := "fnExactMulSpans", unfollowed := true, recurses := true, plainKeys := false, apart := false }
def FnExactMulSpansSaid : Prop := fnExactMulSpansRow.holds Try.pinned (OpenSpec.ofChange fnExactMulSpansSpec)

/-- ITS FALSE NEIGHBOUR: 'it returns false'. Refute it at one input. -/
def fnExactMulSpansWrong : ChangeSpec := { name := "fnExactMulSpans", fn := fun _ => fun
  | [d1, d2] => { results := [.lit (.bool false)], args := [d1, d2] }
  | _ => none }
def FnExactMulSpansWrongFalsely : Prop := fnExactMulSpansRow.holds Try.pinned (OpenSpec.ofChange fnExactMulSpansWrong)

/-- 'laws.FnExactMiddleOf': WHATEVER THE INPUT: true; the input reads as it did. -/
def fnExactMiddleOfSpec : ChangeSpec := { name := "fnExactMiddleOf", fn := fun _ => fun
  | [d] => { results := [.lit (.bool true)], args := [d] }
  | _ => none }
def fnExactMiddleOfRow : OpenClaim := { program := "yteeadoglbkociaa", sum := "9cce01493eafa27d1ebe472b9e7a0f115baf3f36989b4821514f923347265140", func := "loop.example/g01254/laws.FnExactMiddleOf", spec := "fnExactMiddleOf", unfollowed := true, recurses := true, plainKeys := false, apart := false }
def FnExactMiddleOfSaid : Prop := fnExactMiddleOfRow.holds Try.pinned (OpenSpec.ofChange fnExactMiddleOfSpec)

/-- ITS FALSE NEIGHBOUR: 'it returns false'. Refute it at one input. -/
def fnExactMiddleOfWrong : ChangeSpec := { name := "fnExactMiddleOf", fn := fun _ => fun
  | [d] => { results := [.lit (.bool false)], args := [d] }
  | _ => none }
def FnExactMiddleOfWrongFalsely : Prop := fnExactMiddleOfRow.holds Try.pinned (OpenSpec.ofChange fnExactMiddleOfWrong)

/-- 'laws.FnExactSectorsOf': WHATEVER THE INPUT: true; the input reads as it did. -/
def fnExactSectorsOfSpec : ChangeSpec := { name := "fnExactSectorsOf", fn := fun _ => fun
  | [d1, d2, d3] => { results := [.lit (.bool true)], args := [d1, d2, d3] }
  | _ => none }
def fnExactSectorsOfRow : OpenClaim := { program := "yteeadoglbkociaa", sum := "9cce01493eafa27d1ebe472b9e7a0f115baf3f36989b4821514f923347265140", func := "loop.example/g01254/laws.FnExactSectorsOf", spec := "fnExactSectorsOf", unfollowed := true, recurses := true, plainKeys := false, apart := false }
def FnExactSectorsOfSaid : Prop := fnExactSectorsOfRow.holds Try.pinned (OpenSpec.ofChange fnExactSectorsOfSpec)

/-- ITS FALSE NEIGHBOUR: 'it returns false'. Refute it at one input. -/
def fnExactSectorsOfWrong : ChangeSpec := { name := "fnExactSectorsOf", fn := fun _ => fun
  | [d1, d2, d3] => { results := [.lit (.bool false)], args := [d1, d2, d3] }
  | _ => none }
def FnExactSectorsOfWrongFalsely : Prop := fnExactSectorsOfRow.holds Try.pinned (OpenSpec.ofChange fnExactSectorsOfWrong)

/-- 'laws.FnExactShareEvenly': WHATEVER THE INPUT: true; the input reads as it did. -/
def fnExactShareEvenlySpec : ChangeSpec := { name := "fnExactShareEvenly", fn := fun _ => fun
  | [d1, d2] => { results := [.lit (.bool true)], args := [d1, d2] }
  | _ => none }
def fnExactShareEvenlyRow : OpenClaim := { program := "yteeadoglbkociaa", sum := "9cce01493eafa27d1ebe472b9e7a0f115baf3f36989b4821514f923347265140", func := "loop.example/g01254/laws.FnExactShareEvenly", spec := "fnExactShareEvenly", unfollowed := true, recurses := true, plainKeys := false, apart := false }
def FnExactShareEvenlySaid : Prop := fnExactShareEvenlyRow.holds Try.pinned (OpenSpec.ofChange fnExactShareEvenlySpec)

/-- ITS FALSE NEIGHBOUR: 'it returns false'. Refute it at one input. -/
def fnExactShareEvenlyWrong : ChangeSpec := { name := "fnExactShareEvenly", fn := fun _ => fun
  | [d1, d2] => { results := [.lit (.bool false)], args := [d1, d2] }
  | _ => none }
def FnExactShareEvenlyWrongFalsely : Prop := fnExactShareEvenlyRow.holds Try.pinned (OpenSpec.ofChange fnExactShareEvenlyWrong)

/-- 'laws.FnExactShareWhole': WHATEVER THE INPUT: true; the input reads as it did. -/
def fnExactShareWholeSpec : ChangeSpec := { name := "fnExactShareWhole", fn := fun _ => fun
  | [d1, d2] => { results := [.lit (.bool true)], args := [d1, d2] }
  | _ => none }
def fnExactShareWholeRow : OpenClaim := { program := "yteeadoglbkociaa", sum := "9cce01493eafa27d1ebe472b9e7a0f115baf3f36989b4821514f923347265140", func := "loop.example/g01254/laws.FnExactShareWhole", spec := "fnExactShareWhole", unfollowed := true, recurses := true, plainKeys := false, apart := false }
def FnExactShareWholeSaid : Prop := fnExactShareWholeRow.holds Try.pinned (OpenSpec.ofChange fnExactShareWholeSpec)

/-- ITS FALSE NEIGHBOUR: 'it returns false'. Refute it at one input. -/
def fnExactShareWholeWrong : ChangeSpec := { name := "fnExactShareWhole", fn := fun _ => fun
  | [d1, d2] => { results := [.lit (.bool false)], args := [d1, d2] }
  | _ => none }
def FnExactShareWholeWrongFalsely : Prop := fnExactShareWholeRow.holds Try.pinned (OpenSpec.ofChange fnExactShareWholeWrong)

/-- 'laws.FnExactCorrectScale': WHATEVER THE INPUT: true; the input reads as it did. -/
def fnExactCorrectScaleSpec : ChangeSpec := { name := "fnExactCorrectScale", fn := fun _ => fun
  | [d1, d2] => { results := [.lit (.bool true)], args := [d1, d2] }
  | _ => none }
def fnExactCorrectScaleRow : OpenClaim := { program := "yteeadoglbkociaa", sum := "9cce01493eafa27d1ebe472b9e7a0f115baf3f36989b4821514f923347265140", func := "loop.example/g01254/laws.FnExactCorrectScale", spec := "fnExactCorrectScale", unfollowed := true, recurses := true, plainKeys := false, apart := false }
def FnExactCorrectScaleSaid : Prop := fnExactCorrectScaleRow.holds Try.pinned (OpenSpec.ofChange fnExactCorrectScaleSpec)

/-- ITS FALSE NEIGHBOUR: 'it returns false'. Refute it at one input. -/
def fnExactCorrectScaleWrong : ChangeSpec := { name := "fnExactCorrectScale", fn := fun _ => fun
  | [d1, d2] => { results := [.lit (.bool false)], args := [d1, d2] }
  | _ => none }
def FnExactCorrectScaleWrongFalsely : Prop := fnExactCorrectScaleRow.holds Try.pinned (OpenSpec.ofChange fnExactCorrectScaleWrong)

/-- 'laws.FnExactWarmScale': WHATEVER THE INPUT: true; the input reads as it did. -/
def fnExactWarmScaleSpec : ChangeSpec := { name := "fnExactWarmScale", fn := fun _ => fun
  | [d1, d2] => { results := [.lit (.bool true)], args := [d1, d2] }
  | _ => none }
def fnExactWarmScaleRow : OpenClaim := { program := "yteeadoglbkociaa", sum := "9cce01493eafa27d1ebe472b9e7a0f115baf3f36989b4821514f923347265140", func := "loop.example/g01254/laws.FnExactWarmScale", spec := "fnExactWarmScale", unfollowed := true, recurses := true, plainKeys := false, apart := false }
def FnExactWarmScaleSaid : Prop := fnExactWarmScaleRow.holds Try.pinned (OpenSpec.ofChange fnExactWarmScaleSpec)

/-- ITS FALSE NEIGHBOUR: 'it returns false'. Refute it at one input. -/
def fnExactWarmScaleWrong : ChangeSpec := { name := "fnExactWarmScale", fn := fun _ => fun
  | [d1, d2] => { results := [.lit (.bool false)], args := [d1, d2] }
  | _ => none }
def FnExactWarmScaleWrongFalsely : Prop := fnExactWarmScaleRow.holds Try.pinned (OpenSpec.ofChange fnExactWarmScaleWrong)

/-- 'laws.FnExactIntervalErrors': WHATEVER THE INPUT: true; the input reads as it did. -/
def fnExactIntervalErrorsSpec : ChangeSpec := { name := "fnExactIntervalErrors", fn := fun _ => fun
  | [d] => { results := [.lit (.bool true)], args := [d] }
  | _ => none }
def fnExactIntervalErrorsRow : OpenClaim := { program := "yteeadoglbkociaa", sum := "9cce01493eafa27d1ebe472b9e7a0f115baf3f36989b4821514f923347265140", func := "loop.example/g01254/laws.FnExactIntervalErrors", spec := "fnExactIntervalErrors", unfollowed := true, recurses := true, plainKeys := false, apart := false }
def FnExactIntervalErrorsSaid : Prop := fnExactIntervalErrorsRow.holds Try.pinned (OpenSpec.ofChange fnExactIntervalErrorsSpec)

/-- ITS FALSE NEIGHBOUR: 'it returns false'. Refute it at one input. -/
def fnExactIntervalErrorsWrong : ChangeSpec := { name := "fnExactIntervalErrors", fn := fun _ => fun
  | [d] => { results := [.lit (.bool false)], args := [d] }
  | _ => none }
def FnExactIntervalErrorsWrongFalsely : Prop := fnExactIntervalErrorsRow.holds Try.pinned (OpenSpec.ofChange fnExactIntervalErrorsWrong)

/-- 'laws.FnExactErrorsFrom': WHATEVER THE INPUT: true; the input reads as it did. -/
def fnExactErrorsFromSpec : ChangeSpec := { name := "fnExactErrorsFrom", fn := fun _ => fun
  | [d1, d2, d3] => { results := [.lit (.bool true)], args := [d1, d2, d3] }
  | _ => none }
def fnExactErrorsFromRow : OpenClaim := { program := "yteeadoglbkociaa", sum := "9cce01493eafa27d1ebe472b9e7a0f115baf3f36989b4821514f923347265140", func := "loop.example/g01254/laws.FnExactErrorsFrom", spec := "fnExactErrorsFrom", unfollowed := true, recurses := true, plainKeys := false, apart := false }
def FnExactErrorsFromSaid : Prop := fnExactErrorsFromRow.holds Try.pinned (OpenSpec.ofChange fnExactErrorsFromSpec)

/-- ITS FALSE NEIGHBOUR: 'it returns false'. Refute it at one input. -/
def fnExactErrorsFromWrong : ChangeSpec := { name := "fnExactErrorsFrom", fn := fun _ => fun
  | [d1, d2, d3] => { results := [.lit (.bool false)], args := [d1, d2, d3] }
  | _ => none }
def FnExactErrorsFromWrongFalsely : Prop := fnExactErrorsFromRow.holds Try.pinned (OpenSpec.ofChange fnExactErrorsFromWrong)

/-- 'laws.FnExactRingTable': WHATEVER THE INPUT: true; the input reads as it did. -/
def fnExactRingTableSpec : ChangeSpec := { name := "fnExactRingTable", fn := fun _ => fun
  | [d1, d2] => { results := [.lit (.bool true)], args := [d1, d2] }
  | _ => none }
def fnExactRingTableRow : OpenClaim := { program := "yteeadoglbkociaa", sum := "9cce01493eafa27d1ebe472b9e7a0f115baf3f36989b4821514f923347265140", func := "loop.example/g01254/laws.FnExactRingTable", spec := "fnExactRingTable", unfollowed := true, recurses := true, plainKeys := false, apart := false }
def FnExactRingTableSaid : Prop := fnExactRingTableRow.holds Try.pinned (OpenSpec.ofChange fnExactRingTableSpec)

/-- ITS FALSE NEIGHBOUR: 'it returns false'. Refute it at one input. -/
def fnExactRingTableWrong : ChangeSpec := { name := "fnExactRingTable", fn := fun _ => fun
  | [d1, d2] => { results := [.lit (.bool false)], args := [d1, d2] }
  | _ => none }
def FnExactRingTableWrongFalsely : Prop := fnExactRingTableRow.holds Try.pinned (OpenSpec.ofChange fnExactRingTableWrong)

/-- 'laws.FnExactPairTable': WHATEVER THE INPUT: true; the input reads as it did. -/
def fnExactPairTableSpec : ChangeSpec := { name := "fnExactPairTable", fn := fun _ => fun
  | [d] => { results := [.lit (.bool true)], args := [d] }
  | _ => none }
def fnExactPairTableRow : OpenClaim := { program := "yteeadoglbkociaa", sum := "9cce01493eafa27d1ebe472b9e7a0f115baf3f36989b4821514f923347265140", func := "loop.example/g01254/laws.FnExactPairTable", spec := "fnExactPairTable", unfollowed := true, recurses := true, plainKeys := false, apart := false }
def FnExactPairTableSaid : Prop := fnExactPairTableRow.holds Try.pinned (OpenSpec.ofChange fnExactPairTableSpec)

/-- ITS FALSE NEIGHBOUR: 'it returns false'. Refute it at one input. -/
def fnExactPairTableWrong : ChangeSpec := { name := "fnExactPairTable", fn := fun _ => fun
  | [d] => { results := [.lit (.bool false)], args := [d] }
  | _ => none }
def FnExactPairTableWrongFalsely : Prop := fnExactPairTableRow.holds Try.pinned (OpenSpec.ofChange fnExactPairTableWrong)

/- THE SECOND FORM. 'bulk': how many values and letters a reading holds, each counted each time it is reached (what is shared counts as often as it is met; a slice's spare places count too). A statement '..UptoSaid' is the law's where the arguments, and the package variables that the reading takes, are together of bulk at most 1048576: NARROWER than '..Said'. Prove '..Said' where nothing that the law and all that it calls make is longer than what came in: it says more and counts as full. Else prove '..UptoSaid'. A law counts once. -/
mutual
def uptoBulk {H : Type} : DataW H → Nat
  | .lit (.string bytes) => bytes.length + 1
  | .lit _ => 1
  | .nil => 1
  | .ptr d => uptoBulk d + 1
  | .slice elems spare => uptoBulkAll elems + uptoBulkAll spare + 1
  | .agg parts => uptoBulkAll parts + 1
  | .iface _ d => uptoBulk d + 1
  | .map entries => uptoBulkEntries entries + 1
  | .held _ => 1
def uptoBulkAll {H : Type} : List (DataW H) → Nat
  | [] => 0
  | d :: r => uptoBulk d + uptoBulkAll r
def uptoBulkEntries {H : Type} : List (Lit × DataW H) → Nat
  | [] => 0
  | x :: r => uptoBulkEntry x + uptoBulkEntries r
def uptoBulkEntry {H : Type} : Lit × DataW H → Nat
  | (.string bytes, d) => bytes.length + uptoBulk d + 1
  | (_, d) => uptoBulk d + 1
 end
def uptoSmall : (H : Type) → List (DataW H) → Bool := fun _ ds => decide (uptoBulkAll ds ≤ 1048576)
def OpenSpec.upto (s : _root_.Go.ChangeSpec) : _root_.Go.OpenSpec := { _root_.Go.OpenSpec.ofChange s with cond := some uptoSmall }

/-- 'laws.FnExactHullOf', WHERE WHAT IT READS IS OF BULK AT MOST 1048576: true; the input reads as it did. -/
def fnExactHullOfUptoRow : OpenClaim := { program := "yteeadoglbkociaa", sum := "9cce01493eafa27d1ebe472b9e7a0f115baf3f36989b4821514f923347265140", func := "loop.example/g01254/laws.FnExactHullOf", spec := "fnExactHullOf", unfollowed := true, recurses := true, plainKeys := false, apart := false, narrowed := true }
def FnExactHullOfUptoSaid : Prop := fnExactHullOfUptoRow.holds Try.pinned (OpenSpec.upto fnExactHullOfSpec)

/-- 'laws.FnExactMulSpans', WHERE WHAT IT READS IS OF BULK AT MOST 1048576: true; the input reads as it did. -/
def fnExactMulSpansUptoRow : OpenClaim := { program := "yteeadoglbkociaa", sum := "9cce01493eafa27d1ebe472b9e7a0f115baf3f36989b4821514f923347265140", func := "loop.example/g01254/laws.FnExactMulSpans", spec := "fnExactMulSpans", unfollowed := true, recurses := true, plainKeys := false, apart := false, narrowed := true }
def FnExactMulSpansUptoSaid : Prop := fnExactMulSpansUptoRow.holds Try.pinned (OpenSpec.upto fnExactMulSpansSpec)

/-- 'laws.FnExactMiddleOf', WHERE WHAT IT READS IS OF BULK AT MOST 1048576: true; the input reads as it did. -/
def fnExactMiddleOfUptoRow : OpenClaim := { program := "yteeadoglbkociaa", sum := "9cce01493eafa27d1ebe472b9e7a0f115baf3f36989b4821514f923347265140", func := "loop.example/g01254/laws.FnExactMiddleOf", spec := "fnExactMiddleOf", unfollowed := true, recurses := true, plainKeys := false, apart := false, narrowed := true }
def FnExactMiddleOfUptoSaid : Prop := fnExactMiddleOfUptoRow.holds Try.pinned (OpenSpec.upto fnExactMiddleOfSpec)

/-- 'laws.FnExactSectorsOf', WHERE WHAT IT READS IS OF BULK AT MOST 1048576: true; the input reads as it did. -/
def fnExactSectorsOfUptoRow : OpenClaim := { program := "yteeadoglbkociaa", sum := "9cce01493eafa27d1ebe472b9e7a0f115baf3f36989b4821514f923347265140", func := "loop.example/g01254/laws.FnExactSectorsOf", spec := "fnExactSectorsOf", unfollowed := true, recurses := true, plainKeys := false, apart := false, narrowed := true }
def FnExactSectorsOfUptoSaid : Prop := fnExactSectorsOfUptoRow.holds Try.pinned (OpenSpec.upto fnExactSectorsOfSpec)

/-- 'laws.FnExactShareEvenly', WHERE WHAT IT READS IS OF BULK AT MOST 1048576: true; the input reads as it did. -/
def fnExactShareEvenlyUptoRow : OpenClaim := { program := "yteeadoglbkociaa", sum := "9cce01493eafa27d1ebe472b9e7a0f115baf3f36989b4821514f923347265140", func := "loop.example/g01254/laws.FnExactShareEvenly", spec := "fnExactShareEvenly", unfollowed := true, recurses := true, plainKeys := false, apart := false, narrowed := true }
def FnExactShareEvenlyUptoSaid : Prop := fnExactShareEvenlyUptoRow.holds Try.pinned (OpenSpec.upto fnExactShareEvenlySpec)

/-- 'laws.FnExactShareWhole', WHERE WHAT IT READS IS OF BULK AT MOST 1048576: true; the input reads as it did. -/
def fnExactShareWholeUptoRow : OpenClaim := { program := "yteeadoglbkociaa", sum := "9cce01493eafa27d1ebe472b9e7a0f115baf3f36989b4821514f923347265140", func := "loop.example/g01254/laws.FnExactShareWhole", spec := "fnExactShareWhole", unfollowed := true, recurses := true, plainKeys := false, apart := false, narrowed := true }
def FnExactShareWholeUptoSaid : Prop := fnExactShareWholeUptoRow.holds Try.pinned (OpenSpec.upto fnExactShareWholeSpec)

/-- 'laws.FnExactCorrectScale', WHERE WHAT IT READS IS OF BULK AT MOST 1048576: true; the input reads as it did. -/
def fnExactCorrectScaleUptoRow : OpenClaim := { program := "yteeadoglbkociaa", sum := "9cce01493eafa27d1ebe472b9e7a0f115baf3f36989b4821514f923347265140", func := "loop.example/g01254/laws.FnExactCorrectScale", spec := "fnExactCorrectScale", unfollowed := true, recurses := true, plainKeys := false, apart := false, narrowed := true }
def FnExactCorrectScaleUptoSaid : Prop := fnExactCorrectScaleUptoRow.holds Try.pinned (OpenSpec.upto fnExactCorrectScaleSpec)

/-- 'laws.FnExactWarmScale', WHERE WHAT IT READS IS OF BULK AT MOST 1048576: true; the input reads as it did. -/
def fnExactWarmScaleUptoRow : OpenClaim := { program := "yteeadoglbkociaa", sum := "9cce01493eafa27d1ebe472b9e7a0f115baf3f36989b4821514f923347265140", func := "loop.example/g01254/laws.FnExactWarmScale", spec := "fnExactWarmScale", unfollowed := true, recurses := true, plainKeys := false, apart := false, narrowed := true }
def FnExactWarmScaleUptoSaid : Prop := fnExactWarmScaleUptoRow.holds Try.pinned (OpenSpec.upto fnExactWarmScaleSpec)

/-- 'laws.FnExactIntervalErrors', WHERE WHAT IT READS IS OF BULK AT MOST 1048576: true; the input reads as it did. -/
def fnExactIntervalErrorsUptoRow : OpenClaim := { program := "yteeadoglbkociaa", sum := "9cce01493eafa27d1ebe472b9e7a0f115baf3f36989b4821514f923347265140", func := "loop.example/g01254/laws.FnExactIntervalErrors", spec := "fnExactIntervalErrors", unfollowed := true, recurses := true, plainKeys := false, apart := false, narrowed := true }
def FnExactIntervalErrorsUptoSaid : Prop := fnExactIntervalErrorsUptoRow.holds Try.pinned (OpenSpec.upto fnExactIntervalErrorsSpec)

/-- 'laws.FnExactErrorsFrom', WHERE WHAT IT READS IS OF BULK AT MOST 1048576: true; the input reads as it did. -/
def fnExactErrorsFromUptoRow : OpenClaim := { program := "yteeadoglbkociaa", sum := "9cce01493eafa27d1ebe472b9e7a0f115baf3f36989b4821514f923347265140", func := "loop.example/g01254/laws.FnExactErrorsFrom", spec := "fnExactErrorsFrom", unfollowed := true, recurses := true, plainKeys := false, apart := false, narrowed := true }
def FnExactErrorsFromUptoSaid : Prop := fnExactErrorsFromUptoRow.holds Try.pinned (OpenSpec.upto fnExactErrorsFromSpec)

/-- 'laws.FnExactRingTable', WHERE WHAT IT READS IS OF BULK AT MOST 1048576: true; the input reads as it did. -/
def fnExactRingTableUptoRow : OpenClaim := { program := "yteeadoglbkociaa", sum := "9cce01493eafa27d1ebe472b9e7a0f115baf3f36989b4821514f923347265140", func := "loop.example/g01254/laws.FnExactRingTable", spec := "fnExactRingTable", unfollowed := true, recurses := true, plainKeys := false, apart := false, narrowed := true }
def FnExactRingTableUptoSaid : Prop := fnExactRingTableUptoRow.holds Try.pinned (OpenSpec.upto fnExactRingTableSpec)

/-- 'laws.FnExactPairTable', WHERE WHAT IT READS IS OF BULK AT MOST 1048576: true; the input reads as it did. -/
def fnExactPairTableUptoRow : OpenClaim := { program := "yteeadoglbkociaa", sum := "9cce01493eafa27d1ebe472b9e7a0f115baf3f36989b4821514f923347265140", func := "loop.example/g01254/laws.FnExactPairTable", spec := "fnExactPairTable", unfollowed := true, recurses := true, plainKeys := false, apart := false, narrowed := true }
def FnExactPairTableUptoSaid : Prop := fnExactPairTableUptoRow.holds Try.pinned (OpenSpec.upto fnExactPairTableSpec)

end Rows
end Go.Proofs.Yteeadoglbkociaa
