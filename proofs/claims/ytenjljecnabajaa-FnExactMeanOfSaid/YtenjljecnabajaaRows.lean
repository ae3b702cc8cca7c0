/-
  No cell of these rows narrows 'for every input' (looked for: loops, veiled, ifaces, maps, wideKeys, modest, calm, conditions, laid).
  DERIVED. THE GIVEN ROWS OF THIS SEAT. 12 by the template 'for every input the law returns true; each argument reads behind the call as it read before'; 0 by the template 'total and deterministic' (their statements: YtenjljecnabajaaTotals.lean).
  GIVEN WITH THE SEED: the statements are not yours to turn. If you find one false, say at which input.
  Laid BY PROGRAM, IN A SANDBOX (cutbox-rows.mjs): the forced cells as the released guide's own fill.sh prints them over the translation af55d6bfa8e70f3b… (all of the seat's roots in one cut). By AI agents, Wed Nov 11 2026. No macro, syntax, notation, axiom, sorry.
-/
import Derived.Test.YtenjljecnabajaaChecked
import GoSem.Claim
import GoSem.ClaimJoined
import GoSem.ClaimMapViews
import Derived.JoinedTies
import Derived.KernelRfl
namespace Go.Proofs.Ytenjljecnabajaa
/- THE CELL 'sum', in the pinned program and in every row, IS THE sha256 OF THE DUMP (.gsa) THAT YtenjljecnabajaaProg.lean LOADS. Nothing in Lean hashes anything: it is a label: what it is worth is what the hold of that sum in a sandbox is worth. -/
noncomputable def Try.pinned : Pinned := { name := "ytenjljecnabajaa", sum := "af55d6bfa8e70f3bb6eb71a122676047a8bc17b6887b29d7f5bf780ef0f6c266", checked := Try.checked }
namespace Rows
def none {H : Type} : Left H := { results := [], args := [] }

/-- 'laws.FnExactSumOf': WHATEVER THE INPUT: true; the input reads as it did. -/
def fnExactSumOfSpec : ChangeSpec := { name := "fnExactSumOf", fn := fun _ => fun
  | [d] => { results := [.lit (.bool true)], args := [d] }
  | _ => none }
def fnExactSumOfRow : OpenClaim := { program := "ytenjljecnabajaa", sum := "af55d6bfa8e70f3bb6eb71a122676047a8bc17b6887b29d7f5bf780ef0f6c266", func := "loop.example/g01254/laws.FnExactSumOf", spec := "fnExactSumOf", unfollowed := true, recurses := true, plainKeys := false, apart := false }
def FnExactSumOfSaid : Prop := fnExactSumOfRow.holds Try.pinned (OpenSpec.ofChange fnExactSumOfSpec)

/-- ITS FALSE NEIGHBOUR: 'it returns false'. Refute it at one input. -/
def fnExactSumOfWrong : ChangeSpec := { name := "fnExactSumOf", fn := fun _ => fun
  | [d] => { results := [.lit (.bool false)], args := [d] }
  | _ => none }
def FnExactSumOfWrongFalsely : Prop := fnExactSumOfRow.holds Try.pinned (OpenSpec.ofChange fnExactSumOfWrong)

/-- 'laws.FnExactMeanOf': WHATEVER THE INPUT: true; the input reads as it did. -/
def fnExactMeanOfSpec : ChangeSpec := { name := "fnExactMeanOf", fn := fun _ => fun
  | [d] => { results := [.lit (.bool true)], args := [d] }
  | _ => none }
def fnExactMeanOfRow : OpenClaim := { program := "ytenjljecnabajaa", sum := "af55d6bfa8e70f3bb6eb71a122676047a8bc17b6887b29d7f5bf780ef0f6c266", func := "loop.example/g01254/laws.FnExactMeanOf", spec := "fnExactMeanOf", unfollowed := true, recurses := true, plainKeys := false, apart := false }
def FnExactMeanOfSaid : Prop := fnExactMeanOfRow.holds Try.pinned (OpenSpec.ofChange fnExactMeanOfSpec)

/-- ITS FALSE NEIGHBOUR: 'it returns false'. Refute it at one input. -/
def fnExactMeanOfWrong : ChangeSpec := { name := "fnExactMeanOf", fn := fun _ => fun
  | [d] => { results := [.lit (.bool false)], args := [d] }
  | _ => none }
def FnExactMeanOfWrongFalsely : Prop := fnExactMeanOfRow.holds Try.pinned (OpenSpec.ofChange fnExactMeanOfWrong)

/-- 'laws.FnExactMiddleOf': WHATEVER THE INPUT: true; the input reads as it did. -/
def fnExactMiddleOfSpec : ChangeSpec := { name := "fnExactMiddleOf", fn := fun _ => fun
  | [d] => { results := [.lit (.bool true)], args := [d] }
  | _ => none }
def fnExactMiddleOfRow : OpenClaim := { program := "ytenjljecnabajaa", sum := "af55d6bfa8e70f3bb6eb71a122676047a8bc17b6887b29d7f5bf780ef0f6c266", func := "loop.example/g01254/laws.FnExactMiddleOf", spec := "fnExactMiddleOf", unfollowed := true, recurses := true, plainKeys := false, apart := false }
def FnExactMiddleOfSaid : Prop := fnExactMiddleOfRow.holds Try.pinned (OpenSpec.ofChange fnExactMiddleOfSpec)

/-- ITS FALSE NEIGHBOUR: 'it returns false'. Refute it at one input. -/
def fnExactMiddleOfWrong : ChangeSpec := { name := "fnExactMiddleOf", fn := fun _ => fun
  | [d] => { results := [.lit (.bool false)], args := [d] }
  | _ => none }
def FnExactMiddleOfWrongFalsely : Prop := fnExactMiddleOfRow.holds Try.pinned (OpenSpec.ofChange fnExactMiddleOfWrong)

/-- 'laws.FnExactValidSpan': WHATEVER THE INPUT: true; the input reads as it did. -/
def fnExactValidSpanSpec : ChangeSpec := { name := "fnExactValidSpan", fn := fun _ => fun
  | [d] => { results := [.lit (.bool true)], args := [d] }
  | _ => none }
def fnExactValidSpanRow : OpenClaim := { program := "ytenjljecnabajaa", sum := "af55d6bfa8e70f3bb6eb71a122676047a8bc17b6887b29d7f5bf780ef0f6c266", func := "loop.example/g01254/laws.FnExactValidSpan", spec := "fnExactValidSpan", plainKeys := false, apart := false }
def FnExactValidSpanSaid : Prop := fnExactValidSpanRow.holds Try.pinned (OpenSpec.ofChange fnExactValidSpanSpec)

/-- ITS FALSE NEIGHBOUR: 'it returns false'. Refute it at one input. -/
def fnExactValidSpanWrong : ChangeSpec := { name := "fnExactValidSpan", fn := fun _ => fun
  | [d] => { results := [.lit (.bool false)], args := [d] }
  | _ => none }
def FnExactValidSpanWrongFalsely : Prop := fnExactValidSpanRow.holds Try.pinned (OpenSpec.ofChange fnExactValidSpanWrong)

/-- 'laws.FnExactSpanAround': WHATEVER THE INPUT: true; the input reads as it did. -/
def fnExactSpanAroundSpec : ChangeSpec := { name := "fnExactSpanAround", fn := fun _ => fun
  | [d1, d2] => { results := [.lit (.bool true)], args := [d1, d2] }
  | _ => none }
def fnExactSpanAroundRow : OpenClaim := { program := "ytenjljecnabajaa", sum := "af55d6bfa8e70f3bb6eb71a122676047a8bc17b6887b29d7f5bf780ef0f6c266", func := "loop.example/g01254/laws.FnExactSpanAround", spec := "fnExactSpanAround", unfollowed := true, recurses := true, plainKeys := false, apart := false }
def FnExactSpanAroundSaid : Prop := fnExactSpanAroundRow.holds Try.pinned (OpenSpec.ofChange fnExactSpanAroundSpec)

/-- ITS FALSE NEIGHBOUR: 'it returns false'. Refute it at one input. -/
def fnExactSpanAroundWrong : ChangeSpec := { name := "fnExactSpanAround", fn := fun _ => fun
  | [d1, d2] => { results := [.lit (.bool false)], args := [d1, d2] }
  | _ => none }
def FnExactSpanAroundWrongFalsely : Prop := fnExactSpanAroundRow.holds Try.pinned (OpenSpec.ofChange fnExactSpanAroundWrong)

/-- 'laws.FnExactInSpan': WHATEVER THE INPUT: true; the input reads as it did. -/
def fnExactInSpanSpec : ChangeSpec := { name := "fnExactInSpan", fn := fun _ => fun
  | [d1, d2] => { results := [.lit (.bool true)], args := [d1, d2] }
  | _ => none }
def fnExactInSpanRow : OpenClaim := { program := "ytenjljecnabajaa", sum := "af55d6bfa8e70f3bb6eb71a122676047a8bc17b6887b29d7f5bf780ef0f6c266", func := "loop.example/g01254/laws.FnExactInSpan", spec := "fnExactInSpan", plainKeys := false, apart := false }
def FnExactInSpanSaid : Prop := fnExactInSpanRow.holds Try.pinned (OpenSpec.ofChange fnExactInSpanSpec)

/-- ITS FALSE NEIGHBOUR: 'it returns false'. Refute it at one input. -/
def fnExactInSpanWrong : ChangeSpec := { name := "fnExactInSpan", fn := fun _ => fun
  | [d1, d2] => { results := [.lit (.bool false)], args := [d1, d2] }
  | _ => none }
def FnExactInSpanWrongFalsely : Prop := fnExactInSpanRow.holds Try.pinned (OpenSpec.ofChange fnExactInSpanWrong)

/-- 'laws.FnExactWidthOf': WHATEVER THE INPUT: true; the input reads as it did. -/
def fnExactWidthOfSpec : ChangeSpec := { name := "fnExactWidthOf", fn := fun _ => fun
  | [d] => { results := [.lit (.bool true)], args := [d] }
  | _ => none }
def fnExactWidthOfRow : OpenClaim := { program := "ytenjljecnabajaa", sum := "af55d6bfa8e70f3bb6eb71a122676047a8bc17b6887b29d7f5bf780ef0f6c266", func := "loop.example/g01254/laws.FnExactWidthOf", spec := "fnExactWidthOf", unfollowed := true, recurses := true, plainKeys := false, apart := false }
def FnExactWidthOfSaid : Prop := fnExactWidthOfRow.holds Try.pinned (OpenSpec.ofChange fnExactWidthOfSpec)

/-- ITS FALSE NEIGHBOUR: 'it returns false'. Refute it at one input. -/
def fnExactWidthOfWrong : ChangeSpec := { name := "fnExactWidthOf", fn := fun _ => fun
  | [d] => { results := [.lit (.bool false)], args := [d] }
  | _ => none }
def FnExactWidthOfWrongFalsely : Prop := fnExactWidthOfRow.holds Try.pinned (OpenSpec.ofChange fnExactWidthOfWrong)

/-- 'laws.FnExactAddSpans': WHATEVER THE INPUT: true; the input reads as it did. -/
def fnExactAddSpansSpec : ChangeSpec := { name := "fnExactAddSpans", fn := fun _ => fun
  | [d1, d2] => { results := [.lit (.bool true)], args := [d1, d2] }
  | _ => none }
def fnExactAddSpansRow : OpenClaim := { program := "ytenjljecnabajaa", sum := "af55d6bfa8e70f3bb6eb71a122676047a8bc17b6887b29d7f5bf780ef0f6c266", func := "loop.example/g01254/laws.FnExactAddSpans", spec := "fnExactAddSpans", unfollowed := true, recurses := true, plainKeys := false, apart := false }
def FnExactAddSpansSaid : Prop := fnExactAddSpansRow.holds Try.pinned (OpenSpec.ofChange fnExactAddSpansSpec)

/-- ITS FALSE NEIGHBOUR: 'it returns false'. Refute it at one input. -/
def fnExactAddSpansWrong : ChangeSpec := { name := "fnExactAddSpans", fn := fun _ => fun
  | [d1, d2] => { results := [.lit (.bool false)], args := [d1, d2] }
  | _ => none }
def FnExactAddSpansWrongFalsely : Prop := fnExactAddSpansRow.holds Try.pinned (OpenSpec.ofChange fnExactAddSpansWrong)

/-- 'laws.FnExactSubSpans': WHATEVER THE INPUT: true; the input reads as it did. -/
def fnExactSubSpansSpec : ChangeSpec := { name := "fnExactSubSpans", fn := fun _ => fun
  | [d1, d2] => { results := [.lit (.bool true)], args := [d1, d2] }
  | _ => none }
def fnExactSubSpansRow : OpenClaim := { program := "ytenjljecnabajaa", sum := "af55d6bfa8e70f3bb6eb71a122676047a8bc17b6887b29d7f5bf780ef0f6c266", func := "loop.example/g01254/laws.FnExactSubSpans", spec := "fnExactSubSpans", unfollowed := true, recurses := true, plainKeys := false, apart := false }
def FnExactSubSpansSaid : Prop := fnExactSubSpansRow.holds Try.pinned (OpenSpec.ofChange fnExactSubSpansSpec)

/-- ITS FALSE NEIGHBOUR: 'it returns false'. Refute it at one input. -/
def fnExactSubSpansWrong : ChangeSpec := { name := "fnExactSubSpans", fn := fun _ => fun
  | [d1, d2] => { results := [.lit (.bool false)], args := [d1, d2] }
  | _ => none }
def FnExactSubSpansWrongFalsely : Prop := fnExactSubSpansRow.holds Try.pinned (OpenSpec.ofChange fnExactSubSpansWrong)

/-- 'laws.FnExactMulSpans': WHATEVER THE INPUT: true; the input reads as it did. -/
def fnExactMulSpansSpec : ChangeSpec := { name := "fnExactMulSpans", fn := fun _ => fun
  | [d1, d2] => { results := [.lit (.bool true)], args := [d1, d2] }
  | _ => none }
def fnExactMulSpansRow : OpenClaim := { program := "ytenjljecnabajaa", sum := "af55d6bfa8e70f3bb6eb71a122676047a8bc17b6887b29d7f5bf780ef0f6c266", func := "loop.example/g01254/laws.FnExactMulSpans", spec := "fnExactMulSpans", unfollowed := true, recurses := true, plainKeys := false, apart := false }
def FnExactMulSpansSaid : Prop := fnExactMulSpansRow.holds Try.pinned (OpenSpec.ofChange fnExactMulSpansSpec)

/-- ITS FALSE NEIGHBOUR: 'it returns false'. Refute it at one input. -/
def fnExactMulSpansWrong : ChangeSpec := { name := "fnExactMulSpans", fn := fun _ => fun
  | [d1, d2] => { results := [.lit (.bool false)], args := [d1, d2] }
  | _ => none }
def FnExactMulSpansWrongFalsely : Prop := fnExactMulSpansRow.holds Try.pinned (OpenSpec.ofChange fnExactMulSpansWrong)

/-- 'laws.FnExactMeetSpans': WHATEVER THE INPUT: true; the input reads as it did. -/
def fnExactMeetSpansSpec : ChangeSpec := { name := "fnExactMeetSpans", fn := fun _ => fun
  | [d1, d2] => { results := [.lit (.bool true)], args := [d1, d2] }
  | _ => none }
def fnExactMeetSpansRow : OpenClaim := { program := "ytenjljecnabajaa", sum := "af55d6bfa8e70f3bb6eb71a122676047a8bc17b6887b29d7f5bf780ef0f6c266", func := "loop.example/g01254/laws.FnExactMeetSpans", spec := "fnExactMeetSpans", plainKeys := false, apart := false }
def FnExactMeetSpansSaid : Prop := fnExactMeetSpansRow.holds Try.pinned (OpenSpec.ofChange fnExactMeetSpansSpec)

/-- ITS FALSE NEIGHBOUR: 'it returns false'. Refute it at one input. -/
def fnExactMeetSpansWrong : ChangeSpec := { name := "fnExactMeetSpans", fn := fun _ => fun
  | [d1, d2] => { results := [.lit (.bool false)], args := [d1, d2] }
  | _ => none }
def FnExactMeetSpansWrongFalsely : Prop := fnExactMeetSpansRow.holds Try.pinned (OpenSpec.ofChange fnExactMeetSpansWrong)

/-- 'laws.FnExactHullOf': WHATEVER THE INPUT: true; the input reads as it did. -/
def fnExactHullOfSpec : ChangeSpec := { name := "fnExactHullOf", fn := fun _ => fun
  | [d] => { results := [.lit (.bool true)], args := [d] }
  | _ => none }
def fnExactHullOfRow : OpenClaim := { program := "ytenjljecnabajaa", sum := "af55d6bfa8e70f3bb6eb71a122676047a8bc17b6887b29d7f5bf780ef0f6c266", func := "loop.example/g01254/laws.FnExactHullOf", spec := "fnExactHullOf", unfollowed := true, recurses := true, plainKeys := false, apart := false }
def FnExactHullOfSaid : Prop := fnExactHullOfRow.holds Try.pinned (OpenSpec.ofChange fnExactHullOfSpec)

/-- ITS FALSE NEIGHBOUR: 'it returns false'. Refute it at one input. -/
def fnExactHullOfWrong : ChangeSpec := { name := "fnExactHullOf", fn := fun _ => fun
  | [d] => { results := [.lit (.bool false)], args := [d] }
  | _ => none }
def FnExactHullOfWrongFalsely : Prop := fnExactHullOfRow.holds Try.pinned (OpenSpec.ofChange fnExactHullOfWrong)

/- THE SECOND FORM. 'bulk': how many values and letters a reading holds, each counted each time it is reached (what is shared counts as often as it is met; a slice's spare places count too). A statement '..UptoSaid' is the law's where the arguments, and the package variables that the reading takes, are together of bulk at most 1048576: NARROWER than '..Said'. Prove '..Said' where nothing that the law and all that it calls make is longer than what came in: it says more and counts as full. Else prove '..UptoSaid'. A law counts once. -/
mutual
def uptoBulk {H : Type} : DataW H → Nat
  | .lit (.string bytes) => bytes.length + 1
  | .lit _ => 1
  | .nil => 1
  | .ptr d => uptoBulk d + 1
  | .slice elems spare => uptoBulkAll elems + uptoBulkAll spare + 1
  | .agg parts => uptoBulkAll parts + 1
  | .iface _ d => uptoBulk d + 1
  | .map entries => uptoBulkEntries entries + 1
  | .held _ => 1
def uptoBulkAll {H : Type} : List (DataW H) → Nat
  | [] => 0
  | d :: r => uptoBulk d + uptoBulkAll r
def uptoBulkEntries {H : Type} : List (Lit × DataW H) → Nat
  | [] => 0
  | x :: r => uptoBulkEntry x + uptoBulkEntries r
def uptoBulkEntry {H : Type} : Lit × DataW H → Nat
  | (.string bytes, d) => bytes.length + uptoBulk d + 1
  | (_, d) => uptoBulk d + 1
 end
def uptoSmall : (H : Type) → List (DataW H) → Bool := fun _ ds => decide (uptoBulkAll ds ≤ 1048576)
def OpenSpec.upto (s : _root_.Go.ChangeSpec) : _root_.Go.OpenSpec := { _root_.Go.OpenSpec.ofChange s with cond := some uptoSmall }

/-- 'laws.FnExactSumOf', WHERE WHAT IT READS IS OF BULK AT MOST 1048576: true; the input reads as it did. -/
def fnExactSumOfUptoRow : OpenClaim := { program := "ytenjljecnabajaa", sum := "af55d6bfa8e70f3bb6eb71a122676047a8bc17b6887b29d7f5bf780ef0f6c266", func := "loop.example/g01254/laws.FnExactSumOf", spec := "fnExactSumOf", unfollowed := true, recurses := true, plainKeys := false, apart := false, narrowed := true }
def FnExactSumOfUptoSaid : Prop := fnExactSumOfUptoRow.holds Try.pinned (OpenSpec.upto fnExactSumOfSpec)

/-- 'laws.FnExactMeanOf', WHERE WHAT IT READS IS OF BULK AT MOST 1048576: true; the input reads as it did. -/
def fnExactMeanOfUptoRow : OpenClaim := { program := "ytenjljecnabajaa", sum := "af55d6bfa8e70f3bb6eb71a122676047a8bc17b6887b29d7f5bf780ef0f6c266", func := "loop.example/g01254/laws.FnExactMeanOf", spec := "fnExactMeanOf", unfollowed := true, recurses := true, plainKeys := false, apart := false, narrowed := true }
def FnExactMeanOfUptoSaid : Prop := fnExactMeanOfUptoRow.holds Try.pinned (OpenSpec.upto fnExactMeanOfSpec)

/-- 'laws.FnExactMiddleOf', WHERE WHAT IT READS IS OF BULK AT MOST 1048576: true; the input reads as it did. -/
def fnExactMiddleOfUptoRow : OpenClaim := { program := "ytenjljecnabajaa", sum := "af55d6bfa8e70f3bb6eb71a122676047a8bc17b6887b29d7f5bf780ef0f6c266", func := "loop.example/g01254/laws.FnExactMiddleOf", spec := "fnExactMiddleOf", unfollowed := true, recurses := true, plainKeys := false, apart := false, narrowed := true }
def FnExactMiddleOfUptoSaid : Prop := fnExactMiddleOfUptoRow.holds Try.pinned (OpenSpec.upto fnExactMiddleOfSpec)

/-- 'laws.FnExactValidSpan', WHERE WHAT IT READS IS OF BULK AT MOST 1048576: true; the input reads as it did. -/
def fnExactValidSpanUptoRow : OpenClaim := { program := "ytenjljecnabajaa", sum := "af55d6bfa8e70f3bb6eb71a122676047a8bc17b6887b29d7f5bf780ef0f6c266", func := "loop.example/g01254/laws.FnExactValidSpan", spec := "fnExactValidSpan", plainKeys := false, apart := false, narrowed := true }
def FnExactValidSpanUptoSaid : Prop := fnExactValidSpanUptoRow.holds Try.pinned (OpenSpec.upto fnExactValidSpanSpec)

/-- 'laws.FnExactSpanAround', WHERE WHAT IT READS IS OF BULK AT MOST 1048576: true; the input reads as it did. -/
def fnExactSpanAroundUptoRow : OpenClaim := { program := "ytenjljecnabajaa", sum := "af55d6bfa8e70f3bb6eb71a122676047a8bc17b6887b29d7f5bf780ef0f6c266", func := "loop.example/g01254/laws.FnExactSpanAround", spec := "fnExactSpanAround", unfollowed := true, recurses := true, plainKeys := false, apart := false, narrowed := true }
def FnExactSpanAroundUptoSaid : Prop := fnExactSpanAroundUptoRow.holds Try.pinned (OpenSpec.upto fnExactSpanAroundSpec)

/-- 'laws.FnExactInSpan', WHERE WHAT IT READS IS OF BULK AT MOST 1048576: true; the input reads as it did. -/
def fnExactInSpanUptoRow : OpenClaim := { program := "ytenjljecnabajaa", sum := "af55d6bfa8e70f3bb6eb71a122676047a8bc17b6887b29d7f5bf780ef0f6c266", func := "loop.example/g01254/laws.FnExactInSpan", spec := "fnExactInSpan", plainKeys := false, apart := false, narrowed := true }
def FnExactInSpanUptoSaid : Prop := fnExactInSpanUptoRow.holds Try.pinned (OpenSpec.upto fnExactInSpanSpec)

/-- 'laws.FnExactWidthOf', WHERE WHAT IT READS IS OF BULK AT MOST 1048576: true; the input reads as it did. -/
def fnExactWidthOfUptoRow : OpenClaim := { program := "ytenjljecnabajaa", sum := "af55d6bfa8e70f3bb6eb71a122676047a8bc17b6887b29d7f5bf780ef0f6c266", func := "loop.example/g01254/laws.FnExactWidthOf", spec := "fnExactWidthOf", unfollowed := true, recurses := true, plainKeys := false, apart := false, narrowed := true }
def FnExactWidthOfUptoSaid : Prop := fnExactWidthOfUptoRow.holds Try.pinned (OpenSpec.upto fnExactWidthOfSpec)

/-- 'laws.FnExactAddSpans', WHERE WHAT IT READS IS OF BULK AT MOST 1048576: true; the input reads as it did. -/
def fnExactAddSpansUptoRow : OpenClaim := { program := "ytenjljecnabajaa", sum := "af55d6bfa8e70f3bb6eb71a122676047a8bc17b6887b29d7f5bf780ef0f6c266", func := "loop.example/g01254/laws.FnExactAddSpans", spec := "fnExactAddSpans", unfollowed := true, recurses := true, plainKeys := false, apart := false, narrowed := true }
def FnExactAddSpansUptoSaid : Prop := fnExactAddSpansUptoRow.holds Try.pinned (OpenSpec.upto fnExactAddSpansSpec)

/-- 'laws.FnExactSubSpans', WHERE WHAT IT READS IS OF BULK AT MOST 1048576: true; the input reads as it did. -/
def fnExactSubSpansUptoRow : OpenClaim := { program := "ytenjljecnabajaa", sum := "af55d6bfa8e70f3bb6eb71a122676047a8bc17b6887b29d7f5bf780ef0f6c266", func := "loop.example/g01254/laws.FnExactSubSpans", spec := "fnExactSubSpans", unfollowed := true, recurses := true, plainKeys := false, apart := false, narrowed := true }
def FnExactSubSpansUptoSaid : Prop := fnExactSubSpansUptoRow.holds Try.pinned (OpenSpec.upto fnExactSubSpansSpec)

/-- 'laws.FnExactMulSpans', WHERE WHAT IT READS IS OF BULK AT MOST 1048576: true; the input reads as it did. -/
def fnExactMulSpansUptoRow : OpenClaim := { program := "ytenjljecnabajaa", sum := "af55d6bfa8e70f3bb6eb71a122676047a8bc17b6887b29d7f5bf780ef0f6c266", func := "loop.example/g01254/laws.FnExactMulSpans", spec := "fnExactMulSpans", unfollowed := true, recurses := true, plainKeys := false, apart := false, narrowed := true }
def FnExactMulSpansUptoSaid : Prop := fnExactMulSpansUptoRow.holds Try.pinned (OpenSpec.upto fnExactMulSpansSpec)

/-- 'laws.FnExactMeetSpans', WHERE WHAT IT READS IS OF BULK AT MOST 1048576: true; the input reads as it did. -/
def fnExactMeetSpansUptoRow : OpenClaim := { program := "ytenjljecnabajaa", sum := "af55d6bfa8e70f3bb6eb71a122676047a8bc17b6887b29d7f5bf780ef0f6c266", func := "loop.example/g01254/laws.FnExactMeetSpans", spec := "fnExactMeetSpans", plainKeys := false, apart := false, narrowed := true }
def FnExactMeetSpansUptoSaid : Prop := fnExactMeetSpansUptoRow.holds Try.pinned (OpenSpec.upto fnExactMeetSpansSpec)

/-- 'laws.FnExactHullOf', WHERE WHAT IT READS IS OF BULK AT MOST 1048576: true; the input reads as it did. -/
def fnExactHullOfUptoRow : OpenClaim := { program := "ytenjljecnabajaa", sum := "af55d6bfa8e70f3bb6eb71a122676047a8bc17b6887b29d7f5bf780ef0f6c266", func := "loop.example/g01254/laws.FnExactHullOf", spec := "fnExactHullOf", unfollowed := true, recurses := true, plainKeys := false, apart := false, narrowed := true }
def FnExactHullOfUptoSaid : Prop := fnExactHullOfUptoRow.holds Try.pinned (OpenSpec.upto fnExactHullOfSpec)

end Rows
end Go.Proofs.Ytenjljecnabajaa
