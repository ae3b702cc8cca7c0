/-
  No cell of these rows narrows 'for every input' (looked for: loops, veiled, ifaces, maps, wideKeys, modest, calm, conditions, laid).
  DERIVED. THE GIVEN ROWS OF THIS SEAT. 11 by the template 'for every input the law returns true; each argument reads behind the call as it read before'; 0 by the template 'total and deterministic' (their statements: YteopkbeokiomlaaTotals.lean).
  GIVEN WITH THE SEED: the statements are not yours to turn. If you find one false, say at which input.
  Laid BY PROGRAM, IN A SANDBOX (cutbox-rows.mjs): the forced cells as the released guide's own fill.sh prints them over the translation 603f900c9c80d4d1… (all of the seat's roots in one cut). By AI agents, Wed Nov 11 2026. No macro, syntax, notation, axiom, sorry.
-/
import Derived.Test.YteopkbeokiomlaaChecked
import GoSem.Claim
import GoSem.ClaimJoined
import GoSem.ClaimMapViews
import Derived.JoinedTies
import Derived.KernelRfl
namespace Go.Proofs.Yteopkbeokiomlaa
/- THE CELL 'sum', in the pinned program and in every row, IS THE sha256 OF THE DUMP (.gsa) THAT YteopkbeokiomlaaProg.lean LOADS. Nothing in Lean hashes anything: it is a label: what it is worth is what the hold of that sum in a sandbox is worth. -/
noncomputable def Try.pinned : Pinned := { name := "yteopkbeokiomlaa", sum := "603f900c9c80d4d19041d1477e9c62a624b7733f6d979050076de2e0af0fdb5f", checked := Try.checked }
namespace Rows
def none {H : Type} : Left H := { results := [], args := [] }

/-- 'laws.FnExactWidthOf': WHATEVER THE INPUT: true; the input reads as it did. -/
def fnExactWidthOfSpec : ChangeSpec := { name := "fnExactWidthOf", fn := fun _ => fun
  | [d] => { results := [.lit (.bool true)], args := [d] }
  | _ => none }
def fnExactWidthOfRow : OpenClaim := { program := "yteopkbeokiomlaa", sum := "603f900c9c80d4d19041d1477e9c62a624b7733f6d979050076de2e0af0fdb5f", func := "loop.example/g01254/laws.FnExactWidthOf", spec := "fnExactWidthOf", unfollowed := true, recurses := true, plainKeys := false, apart := false }
def FnExactWidthOfSaid : Prop := fnExactWidthOfRow.holds Try.pinned (OpenSpec.ofChange fnExactWidthOfSpec)

/-- ITS FALSE NEIGHBOUR: 'it returns false'. Refute it at one input. -/
def fnExactWidthOfWrong : ChangeSpec := { name := "fnExactWidthOf", fn := fun _ => fun
  | [d] => { results := [.lit (.bool false)], args := [d] }
  | _ => none }
def FnExactWidthOfWrongFalsely : Prop := fnExactWidthOfRow.holds Try.pinned (OpenSpec.ofChange fnExactWidthOfWrong)

/-- 'laws.FnExactHullOf': WHATEVER THE INPUT: true; the input reads as it did. -/
def fnExactHullOfSpec : ChangeSpec := { name := "fnExactHullOf", fn := fun _ => fun
  | [d] => { results := [.lit (.bool true)], args := [d] }
  | _ => none }
def fnExactHullOfRow : OpenClaim := { program := "yteopkbeokiomlaa", sum := "603f900c9c80d4d19041d1477e9c62a624b7733f6d979050076de2e0af0fdb5f", func := "loop.example/g01254/laws.FnExactHullOf", spec := "fnExactHullOf", unfollowed := true, recurses := true, plainKeys := false, apart := false }
def FnExactHullOfSaid : Prop := fnExactHullOfRow.holds Try.pinned (OpenSpec.ofChange fnExactHullOfSpec)

/-- ITS FALSE NEIGHBOUR: 'it returns false'. Refute it at one input. -/
def fnExactHullOfWrong : ChangeSpec := { name := "fnExactHullOf", fn := fun _ => fun
  | [d] => { results := [.lit (.bool false)], args := [d] }
  | _ => none }
def FnExactHullOfWrongFalsely : Prop := fnExactHullOfRow.holds Try.pinned (OpenSpec.ofChange fnExactHullOfWrong)

/-- 'laws.FnExactMulSpans': WHATEVER THE INPUT: true; the input reads as it did. -/
def fnExactMulSpansSpec : ChangeSpec := { name := "fnExactMulSpans", fn := fun _ => fun
  | [d1, d2] => { results := [.lit (.bool true)], args := [d1, d2] }
  | _ => none }
def fnExactMulSpansRow : OpenClaim := { program := "yteopkbeokiomlaa", sum := "603f900c9c80d4d19041d1477e9c62a624b7733f6d979050076de2e0af0fdb5f", func := "loop.example/g01254/laws.FnExactMulSpans", spec := "fnExactMulSpans", unfollowed := true, recurses := true, plainKeys := false, apart := false }
def FnExactMulSpansSaid : Prop := fnExactMulSpansRow.holds Try.pinned (OpenSpec.ofChange fnExactMulSpansSpec)

/-- ITS FALSE NEIGHBOUR: 'it returns false'. Refute it at one input. -/
def fnExactMulSpansWrong : ChangeSpec := { name := "fnExactMulSpans", fn := fun _ => fun
  | [d1, d2] => { results := [.lit (.bool false)], args := [d1, d2] }
  | _ => none }
def FnExactMulSpansWrongFalsely : Prop := fnExactMulSpansRow.holds Try.pinned (OpenSpec.ofChange fnExactMulSpansWrong)

/-- 'laws.FnExactMiddleOf': WHATEVER THE INPUT: true; the input reads as it did. -/
def fnExactMiddleOfSpec : ChangeSpec := { name := "fnExactMiddleOf", fn := fun _ => fun
  | [d] => { results := [.lit (.bool true)], args := [d] }
  | _ => none }
def fnExactMiddleOfRow : OpenClaim := { program := "yteopkbeokiomlaa", sum := "603f900c9c80d4d19041d1477e9c62a624b7733f6d979050076de2e0af0fdb5f", func := "loop.example/g01254/laws.FnExactMiddleOf", spec := "fnExactMiddleOf", unfollowed := true, recurses := true, plainKeys := false, apart := false }
def FnExactMiddleOfSaid : Prop := fnExactMiddleOfRow.holds Try.pinned (OpenSpec.ofChange fnExactMiddleOfSpec)

/-- ITS FALSE NEIGHBOUR: 'it returns false'. Refute it at one input. -/
def fnExactMiddleOfWrong : ChangeSpec := { name := "fnExactMiddleOf", fn := fun _ => fun
  | [d] => { results := [.lit (.bool false)], args := [d] }
  | _ => none }
def FnExactMiddleOfWrongFalsely : Prop := fnExactMiddleOfRow.holds Try.pinned (OpenSpec.ofChange fnExactMiddleOfWrong)

/-- 'laws.FnExactSectorsOf': WHATEVER THE INPUT: true; the input reads as it did. -/
def fnExactSectorsOfSpec : ChangeSpec := { name := "fnExactSectorsOf", fn := fun _ => fun
  | [d1, d2, d3] => { results := [.lit (.bool true)], args := [d1, d2, d3] }
  | _ => none }
def fnExactSectorsOfRow : OpenClaim := { program := "yteopkbeokiomlaa", sum := "603f900c9c80d4d19041d1477e9c62a624b7733f6d979050076de2e0af0fdb5f", func := "loop.example/g01254/laws.FnExactSectorsOf", spec := "fnExactSectorsOf", unfollowed := true, recurses := true, plainKeys := false, apart := false }
def FnExactSectorsOfSaid : Prop := fnExactSectorsOfRow.holds Try.pinned (OpenSpec.ofChange fnExactSectorsOfSpec)

/-- ITS FALSE NEIGHBOUR: 'it returns false'. Refute it at one input. -/
def fnExactSectorsOfWrong : ChangeSpec := { name := "fnExactSectorsOf", fn := fun _ => fun
  | [d1, d2, d3] => { results := [.lit (.bool false)], args := [d1, d2, d3] }
  | _ => none }
def FnExactSectorsOfWrongFalsely : Prop := fnExactSectorsOfRow.holds Try.pinned (OpenSpec.ofChange fnExactSectorsOfWrong)

/-- 'laws.FnExactWarmScale': WHATEVER THE INPUT: true; the input reads as it did. -/
def fnExactWarmScaleSpec : ChangeSpec := { name := "fnExactWarmScale", fn := fun _ => fun
  | [d1, d2] => { results := [.lit (.bool true)], args := [d1, d2] }
  | _ => none }
def fnExactWarmScaleRow : OpenClaim := { program := "yteopkbeokiomlaa", sum := "603f900c9c80d4d19041d1477e9c62a624b7733f6d979050076de2e0af0fdb5f", func := "loop.example/g01254/laws.FnExactWarmScale", spec := "fnExactWarmScale", unfollowed := true, recurses := true, plainKeys := false, apart := false }
def FnExactWarmScaleSaid : Prop := fnExactWarmScaleRow.holds Try.pinned (OpenSpec.ofChange fnExactWarmScaleSpec)

/-- ITS FALSE NEIGHBOUR: 'it returns false'. Refute it at one input. -/
def fnExactWarmScaleWrong : ChangeSpec := { name := "fnExactWarmScale", fn := fun _ => fun
  | [d1, d2] => { results := [.lit (.bool false)], args := [d1, d2] }
  | _ => none }
def FnExactWarmScaleWrongFalsely : Prop := fnExactWarmScaleRow.holds Try.pinned (OpenSpec.ofChange fnExactWarmScaleWrong)

/-- 'laws.FnExactEvenScale': WHATEVER THE INPUT: true; the input reads as it did. -/
def fnExactEvenScaleSpec : ChangeSpec := { name := "fnExactEvenScale", fn := fun _ => fun
  | [d1, d2] => { results := [.lit (.bool true)], args := [d1, d2] }
  | _ => none }
def fnExactEvenScaleRow : OpenClaim := { program := "yteopkbeokiomlaa", sum := "603f900c9c80d4d19041d1477e9c62a624b7733f6d979050076de2e0af0fdb5f", func := "loop.example/g01254/laws.FnExactEvenScale", spec := "fnExactEvenScale", unfollowed := true, recurses := true, plainKeys := false, apart := false }
def FnExactEvenScaleSaid : Prop := fnExactEvenScaleRow.holds Try.pinned (OpenSpec.ofChange fnExactEvenScaleSpec)

/-- ITS FALSE NEIGHBOUR: 'it returns false'. Refute it at one input. -/
def fnExactEvenScaleWrong : ChangeSpec := { name := "fnExactEvenScale", fn := fun _ => fun
  | [d1, d2] => { results := [.lit (.bool false)], args := [d1, d2] }
  | _ => none }
def FnExactEvenScaleWrongFalsely : Prop := fnExactEvenScaleRow.holds Try.pinned (OpenSpec.ofChange fnExactEvenScaleWrong)

/-- 'laws.FnExactRingTable': WHATEVER THE INPUT: true; the input reads as it did. -/
def fnExactRingTableSpec : ChangeSpec := { name := "fnExactRingTable", fn := fun _ => fun
  | [d1, d2] => { results := [.lit (.bool true)], args := [d1, d2] }
  | _ => none }
def fnExactRingTableRow : OpenClaim := { program := "yteopkbeokiomlaa", sum := "603f900c9c80d4d19041d1477e9c62a624b7733f6d979050076de2e0af0fdb5f", func := "loop.example/g01254/laws.FnExactRingTable", spec := "fnExactRingTable", unfollowed := true, recurses := true, plainKeys := false, apart := false }
def FnExactRingTableSaid : Prop := fnExactRingTableRow.holds Try.pinned (OpenSpec.ofChange fnExactRingTableSpec)

/-- ITS FALSE NEIGHBOUR: 'it returns false'. Refute it at one input. -/
def fnExactRingTableWrong : ChangeSpec := { name := "fnExactRingTable", fn := fun _ => fun
  | [d1, d2] => { results := [.lit (.bool false)], args := [d1, d2] }
  | _ => none }
def FnExactRingTableWrongFalsely : Prop := fnExactRingTableRow.holds Try.pinned (OpenSpec.ofChange fnExactRingTableWrong)

/-- 'laws.FnExactPairTable': WHATEVER THE INPUT: true; the input reads as it did. -/
def fnExactPairTableSpec : ChangeSpec := { name := "fnExactPairTable", fn := fun _ => fun
  | [d] => { results := [.lit (.bool true)], args := [d] }
  | _ => none }
def fnExactPairTableRow : OpenClaim := { program := "yteopkbeokiomlaa", sum := "603f900c9c80d4d19041d1477e9c62a624b7733f6d979050076de2e0af0fdb5f", func := "loop.example/g01254/laws.FnExactPairTable", spec := "fnExactPairTable", unfollowed := true, recurses := true, plainKeys := false, apart := false }
def FnExactPairTableSaid : Prop := fnExactPairTableRow.holds Try.pinned (OpenSpec.ofChange fnExactPairTableSpec)

/-- ITS FALSE NEIGHBOUR: 'it returns false'. Refute it at one input. -/
def fnExactPairTableWrong : ChangeSpec := { name := "fnExactPairTable", fn := fun _ => fun
  | [d] => { results := [.lit (.bool false)], args := [d] }
  | _ => none }
def FnExactPairTableWrongFalsely : Prop := fnExactPairTableRow.holds Try.pinned (OpenSpec.ofChange fnExactPairTableWrong)

/-- 'laws.FnExactValidTable': WHATEVER THE INPUT: true; the input reads as it did. -/
def fnExactValidTableSpec : ChangeSpec := { name := "fnExactValidTable", fn := fun _ => fun
  | [d] => { results := [.lit (.bool true)], args := [d] }
  | _ => none }
def fnExactValidTableRow : OpenClaim := { program := "yteopkbeokiomlaa", sum := "603f900c9c80d4d19041d1477e9c62a624b7733f6d979050076de2e0af0fdb5f", func := "loop.example/g01254/laws.FnExactValidTable", spec := "fnExactValidTable", unfollowed := true, recurses := true, plainKeys := false, apart := false }
def FnExactValidTableSaid : Prop := fnExactValidTableRow.holds Try.pinned (OpenSpec.ofChange fnExactValidTableSpec)

/-- ITS FALSE NEIGHBOUR: 'it returns false'. Refute it at one input. -/
def fnExactValidTableWrong : ChangeSpec := { name := "fnExactValidTable", fn := fun _ => fun
  | [d] => { results := [.lit (.bool false)], args := [d] }
  | _ => none }
def FnExactValidTableWrongFalsely : Prop := fnExactValidTableRow.holds Try.pinned (OpenSpec.ofChange fnExactValidTableWrong)

/-- 'laws.FnExactSameTable': WHATEVER THE INPUT: true; the input reads as it did. -/
def fnExactSameTableSpec : ChangeSpec := { name := "fnExactSameTable", fn := fun _ => fun
  | [d1, d2] => { results := [.lit (.bool true)], args := [d1, d2] }
  | _ => none }
def fnExactSameTableRow : OpenClaim := { program := "yteopkbeokiomlaa", sum := "603f900c9c80d4d19041d1477e9c62a624b7733f6d979050076de2e0af0fdb5f", func := "loop.example/g01254/laws.FnExactSameTable", spec := "fnExactSameTable", plainKeys := false, apart := false }
def FnExactSameTableSaid : Prop := fnExactSameTableRow.holds Try.pinned (OpenSpec.ofChange fnExactSameTableSpec)

/-- ITS FALSE NEIGHBOUR: 'it returns false'. Refute it at one input. -/
def fnExactSameTableWrong : ChangeSpec := { name := "fnExactSameTable", fn := fun _ => fun
  | [d1, d2] => { results := [.lit (.bool false)], args := [d1, d2] }
  | _ => none }
def FnExactSameTableWrongFalsely : Prop := fnExactSameTableRow.holds Try.pinned (OpenSpec.ofChange fnExactSameTableWrong)

/- THE SECOND FORM. 'bulk': how many values and letters a reading holds, each counted each time it is reached (what is shared counts as often as it is met; a slice's spare places count too). A statement '..UptoSaid' is the law's where the arguments, and the package variables that the reading takes, are together of bulk at most 1048576: NARROWER than '..Said'. Prove '..Said' where nothing that the law and all that it calls make is longer than what came in: it says more and counts as full. Else prove '..UptoSaid'. A law counts once. -/
mutual
def uptoBulk {H : Type} : DataW H → Nat
  | .lit (.string bytes) => bytes.length + 1
  | .lit _ => 1
  | .nil => 1
  | .ptr d => uptoBulk d + 1
  | .slice elems spare => uptoBulkAll elems + uptoBulkAll spare + 1
  | .agg parts => uptoBulkAll parts + 1
  | .iface _ d => uptoBulk d + 1
  | .map entries => uptoBulkEntries entries + 1
  | .held _ => 1
def uptoBulkAll {H : Type} : List (DataW H) → Nat
  | [] => 0
  | d :: r => uptoBulk d + uptoBulkAll r
def uptoBulkEntries {H : Type} : List (Lit × DataW H) → Nat
  | [] => 0
  | x :: r => uptoBulkEntry x + uptoBulkEntries r
def uptoBulkEntry {H : Type} : Lit × DataW H → Nat
  | (.string bytes, d) => bytes.length + uptoBulk d + 1
  | (_, d) => uptoBulk d + 1
 end
def uptoSmall : (H : Type) → List (DataW H) → Bool := fun _ ds => decide (uptoBulkAll ds ≤ 1048576)
def OpenSpec.upto (s : _root_.Go.ChangeSpec) : _root_.Go.OpenSpec := { _root_.Go.OpenSpec.ofChange s with cond := some uptoSmall }

/-- 'laws.FnExactWidthOf', WHERE WHAT IT READS IS OF BULK AT MOST 1048576: true; the input reads as it did. -/
def fnExactWidthOfUptoRow : OpenClaim := { program := "yteopkbeokiomlaa", sum := "603f900c9c80d4d19041d1477e9c62a624b7733f6d979050076de2e0af0fdb5f", func := "loop.example/g01254/laws.FnExactWidthOf", spec := "fnExactWidthOf", unfollowed := true, recurses := true, plainKeys := false, apart := false, narrowed := true }
def FnExactWidthOfUptoSaid : Prop := fnExactWidthOfUptoRow.holds Try.pinned (OpenSpec.upto fnExactWidthOfSpec)

/-- 'laws.FnExactHullOf', WHERE WHAT IT READS IS OF BULK AT MOST 1048576: true; the input reads as it did. -/
def fnExactHullOfUptoRow : OpenClaim := { program := "yteopkbeokiomlaa", sum := "603f900c9c80d4d19041d1477e9c62a624b7733f6d979050076de2e0af0fdb5f", func := "loop.example/g01254/laws.FnExactHullOf", spec := "fnExactHullOf", unfollowed := true, recurses := true, plainKeys := false, apart := false, narrowed := true }
def FnExactHullOfUptoSaid : Prop := fnExactHullOfUptoRow.holds Try.pinned (OpenSpec.upto fnExactHullOfSpec)

/-- 'laws.FnExactMulSpans', WHERE WHAT IT READS IS OF BULK AT MOST 1048576: true; the input reads as it did. -/
def fnExactMulSpansUptoRow : OpenClaim := { program := "yteopkbeokiomlaa", sum := "603f900c9c80d4d19041d1477e9c62a624b7733f6d979050076de2e0af0fdb5f", func := "loop.example/g01254/laws.FnExactMulSpans", spec := "fnExactMulSpans", unfollowed := true, recurses := true, plainKeys := false, apart := false, narrowed := true }
def FnExactMulSpansUptoSaid : Prop := fnExactMulSpansUptoRow.holds Try.pinned (OpenSpec.upto fnExactMulSpansSpec)

/-- 'laws.FnExactMiddleOf', WHERE WHAT IT READS IS OF BULK AT MOST 1048576: true; the input reads as it did. -/
def fnExactMiddleOfUptoRow : OpenClaim := { program := "yteopkbeokiomlaa", sum := "603f900c9c80d4d19041d1477e9c62a624b7733f6d979050076de2e0af0fdb5f", func := "loop.example/g01254/laws.FnExactMiddleOf", spec := "fnExactMiddleOf", unfollowed := true, recurses := true, plainKeys := false, apart := false, narrowed := true }
def FnExactMiddleOfUptoSaid : Prop := fnExactMiddleOfUptoRow.holds Try.pinned (OpenSpec.upto fnExactMiddleOfSpec)

/-- 'laws.FnExactSectorsOf', WHERE WHAT IT READS IS OF BULK AT MOST 1048576: true; the input reads as it did. -/
def fnExactSectorsOfUptoRow : OpenClaim := { program := "yteopkbeokiomlaa", sum := "603f900c9c80d4d19041d1477e9c62a624b7733f6d979050076de2e0af0fdb5f", func := "loop.example/g01254/laws.FnExactSectorsOf", spec := "fnExactSectorsOf", unfollowed := true, recurses := true, plainKeys := false, apart := false, narrowed := true }
def FnExactSectorsOfUptoSaid : Prop := fnExactSectorsOfUptoRow.holds Try.pinned (OpenSpec.upto fnExactSectorsOfSpec)

/-- 'laws.FnExactWarmScale', WHERE WHAT IT READS IS OF BULK AT MOST 1048576: true; the input reads as it did. -/
def fnExactWarmScaleUptoRow : OpenClaim := { program := "yteopkbeokiomlaa", sum := "603f900c9c80d4d19041d1477e9c62a624b7733f6d979050076de2e0af0fdb5f", func := "loop.example/g01254/laws.FnExactWarmScale", spec := "fnExactWarmScale", unfollowed := true, recurses := true, plainKeys := false, apart := false, narrowed := true }
def FnExactWarmScaleUptoSaid : Prop := fnExactWarmScaleUptoRow.holds Try.pinned (OpenSpec.upto fnExactWarmScaleSpec)

/-- 'laws.FnExactEvenScale', WHERE WHAT IT READS IS OF BULK AT MOST 1048576: true; the input reads as it did. -/
def fnExactEvenScaleUptoRow : OpenClaim := { program := "yteopkbeokiomlaa", sum := "603f900c9c80d4d19041d1477e9c62a624b7733f6d979050076de2e0af0fdb5f", func := "loop.example/g01254/laws.FnExactEvenScale", spec := "fnExactEvenScale", unfollowed := true, recurses := true, plainKeys := false, apart := false, narrowed := true }
def FnExactEvenScaleUptoSaid : Prop := fnExactEvenScaleUptoRow.holds Try.pinned (OpenSpec.upto fnExactEvenScaleSpec)

/-- 'laws.FnExactRingTable', WHERE WHAT IT READS IS OF BULK AT MOST 1048576: true; the input reads as it did. -/
def fnExactRingTableUptoRow : OpenClaim := { program := "yteopkbeokiomlaa", sum := "603f900c9c80d4d19041d1477e9c62a624b7733f6d979050076de2e0af0fdb5f", func := "loop.example/g01254/laws.FnExactRingTable", spec := "fnExactRingTable", unfollowed := true, recurses := true, plainKeys := false, apart := false, narrowed := true }
def FnExactRingTableUptoSaid : Prop := fnExactRingTableUptoRow.holds Try.pinned (OpenSpec.upto fnExactRingTableSpec)

/-- 'laws.FnExactPairTable', WHERE WHAT IT READS IS OF BULK AT MOST 1048576: true; the input reads as it did. -/
def fnExactPairTableUptoRow : OpenClaim := { program := "yteopkbeokiomlaa", sum := "603f900c9c80d4d19041d1477e9c62a624b7733f6d979050076de2e0af0fdb5f", func := "loop.example/g01254/laws.FnExactPairTable", spec := "fnExactPairTable", unfollowed := true, recurses := true, plainKeys := false, apart := false, narrowed := true }
def FnExactPairTableUptoSaid : Prop := fnExactPairTableUptoRow.holds Try.pinned (OpenSpec.upto fnExactPairTableSpec)

/-- 'laws.FnExactValidTable', WHERE WHAT IT READS IS OF BULK AT MOST 1048576: true; the input reads as it did. -/
def fnExactValidTableUptoRow : OpenClaim := { program := "yteopkbeokiomlaa", sum := "603f900c9c80d4d19041d1477e9c62a624b7733f6d979050076de2e0af0fdb5f", func := "loop.example/g01254/laws.FnExactValidTable", spec := "fnExactValidTable", unfollowed := true, recurses := true, plainKeys := false, apart := false, narrowed := true }
def FnExactValidTableUptoSaid : Prop := fnExactValidTableUptoRow.holds Try.pinned (OpenSpec.upto fnExactValidTableSpec)

/-- 'laws.FnExactSameTable', WHERE WHAT IT READS IS OF BULK AT MOST 1048576: true; the input reads as it did. -/
def fnExactSameTableUptoRow : OpenClaim := { program := "yteopkbeokiomlaa", sum := "603f900c9c80d4d19041d1477e9c62a624b7733f6d979050076de2e0af0fdb5f", func := "loop.example/g01254/laws.FnExactSameTable", spec := "fnExactSameTable", plainKeys := false, apart := false, narrowed := true }
def FnExactSameTableUptoSaid : Prop := fnExactSameTableUptoRow.holds Try.pinned (OpenSpec.upto fnExactSameTableSpec)

end Rows
end Go.Proofs.Yteopkbeokiomlaa
