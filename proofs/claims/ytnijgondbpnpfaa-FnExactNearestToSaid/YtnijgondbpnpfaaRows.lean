/-
  No cell of these rows narrows 'for every input' (looked for: loops, veiled, ifaces, maps, wideKeys, modest, calm, conditions, laid).
  DERIVED. THE GIVEN ROWS OF THIS SEAT. 22 by the template 'for every input the law returns true; each argument reads behind the call as it read before'; 0 by the template 'total and deterministic' (their statements: YtnijgondbpnpfaaTotals.lean).
  GIVEN WITH THE SEED: the statements are not yours to turn. If you find one false, say at which input.
  Laid BY PROGRAM, IN A SANDBOX (cutbox-rows.mjs): the forced cells as the released guide's own fill.sh prints them over the translation d893743e693dfb7c… (all of the seat's roots in one cut). By AI agents, Wed Nov 11 2026. No macro, syntax, notation, axiom, sorry.
-/
import Derived.Test.YtnijgondbpnpfaaChecked
import GoSem.Claim
import GoSem.ClaimJoined
import GoSem.ClaimMapViews
import Derived.JoinedTies
import Derived.KernelRfl
namespace Go.Proofs.Ytnijgondbpnpfaa
/- THE CELL 'sum', in the pinned program and in every row, IS THE sha256 OF THE DUMP (.gsa) THAT YtnijgondbpnpfaaProg.lean LOADS. Nothing in Lean hashes anything: it is a label: what it is worth is what the hold of that sum in a sandbox is worth. -/
noncomputable def Try.pinned : Pinned := { name := "ytnijgondbpnpfaa", sum := "d893743e693dfb7c027f39c3f7f48851ff0fb6416560e399d2250d0d7e433c10", checked := Try.checked }
namespace Rows
def none {H : Type} : Left H := { results := [], args := [] }

/-- 'laws.FnExactValidFrac': WHATEVER THE INPUT: true; the input reads as it did. -/
def fnExactValidFracSpec : ChangeSpec := { name := "fnExactValidFrac", fn := fun _ => fun
  | [d] => { results := [.lit (.bool true)], args := [d] }
  | _ => none }
def fnExactValidFracRow : OpenClaim := { program := "ytnijgondbpnpfaa", sum := "d893743e693dfb7c027f39c3f7f48851ff0fb6416560e399d2250d0d7e433c10", func := "loop.example/g01254/laws.FnExactValidFrac", spec := "fnExactValidFrac", plainKeys := false, apart := false }
def FnExactValidFracSaid : Prop := fnExactValidFracRow.holds Try.pinned (OpenSpec.ofChange fnExactValidFracSpec)

/-- ITS FALSE NEIGHBOUR: 'it returns false'. Refute it at one input. -/
def fnExactValidFracWrong : ChangeSpec := { name := "fnExactValidFrac", fn := fun _ => fun
  | [d] => { results := [.lit (.bool false)], args := [d] }
  | _ => none }
def FnExactValidFracWrongFalsely : Prop := fnExactValidFracRow.holds Try.pinned (OpenSpec.ofChange fnExactValidFracWrong)

/-- 'laws.FnExactMakeFrac': WHATEVER THE INPUT: true; the input reads as it did. -/
def fnExactMakeFracSpec : ChangeSpec := { name := "fnExactMakeFrac", fn := fun _ => fun
  | [d1, d2] => { results := [.lit (.bool true)], args := [d1, d2] }
  | _ => none }
def fnExactMakeFracRow : OpenClaim := { program := "ytnijgondbpnpfaa", sum := "d893743e693dfb7c027f39c3f7f48851ff0fb6416560e399d2250d0d7e433c10", func := "loop.example/g01254/laws.FnExactMakeFrac", spec := "fnExactMakeFrac", unfollowed := true, recurses := true, plainKeys := false, apart := false }
def FnExactMakeFracSaid : Prop := fnExactMakeFracRow.holds Try.pinned (OpenSpec.ofChange fnExactMakeFracSpec)

/-- ITS FALSE NEIGHBOUR: 'it returns false'. Refute it at one input. -/
def fnExactMakeFracWrong : ChangeSpec := { name := "fnExactMakeFrac", fn := fun _ => fun
  | [d1, d2] => { results := [.lit (.bool false)], args := [d1, d2] }
  | _ => none }
def FnExactMakeFracWrongFalsely : Prop := fnExactMakeFracRow.holds Try.pinned (OpenSpec.ofChange fnExactMakeFracWrong)

/-- 'laws.FnExactWhole': WHATEVER THE INPUT: true; the input reads as it did. -/
def fnExactWholeSpec : ChangeSpec := { name := "fnExactWhole", fn := fun _ => fun
  | [d] => { results := [.lit (.bool true)], args := [d] }
  | _ => none }
def fnExactWholeRow : OpenClaim := { program := "ytnijgondbpnpfaa", sum := "d893743e693dfb7c027f39c3f7f48851ff0fb6416560e399d2250d0d7e433c10", func := "loop.example/g01254/laws.FnExactWhole", spec := "fnExactWhole", unfollowed := true, recurses := true, plainKeys := false, apart := false }
def FnExactWholeSaid : Prop := fnExactWholeRow.holds Try.pinned (OpenSpec.ofChange fnExactWholeSpec)

/-- ITS FALSE NEIGHBOUR: 'it returns false'. Refute it at one input. -/
def fnExactWholeWrong : ChangeSpec := { name := "fnExactWhole", fn := fun _ => fun
  | [d] => { results := [.lit (.bool false)], args := [d] }
  | _ => none }
def FnExactWholeWrongFalsely : Prop := fnExactWholeRow.holds Try.pinned (OpenSpec.ofChange fnExactWholeWrong)

/-- 'laws.FnExactAddFracs': WHATEVER THE INPUT: true; the input reads as it did. -/
def fnExactAddFracsSpec : ChangeSpec := { name := "fnExactAddFracs", fn := fun _ => fun
  | [d1, d2] => { results := [.lit (.bool true)], args := [d1, d2] }
  | _ => none }
def fnExactAddFracsRow : OpenClaim := { program := "ytnijgondbpnpfaa", sum := "d893743e693dfb7c027f39c3f7f48851ff0fb6416560e399d2250d0d7e433c10", func := "loop.example/g01254/laws.FnExactAddFracs", spec := "fnExactAddFracs", unfollowed := true, recurses := true, plainKeys := false, apart := false }
def FnExactAddFracsSaid : Prop := fnExactAddFracsRow.holds Try.pinned (OpenSpec.ofChange fnExactAddFracsSpec)

/-- ITS FALSE NEIGHBOUR: 'it returns false'. Refute it at one input. -/
def fnExactAddFracsWrong : ChangeSpec := { name := "fnExactAddFracs", fn := fun _ => fun
  | [d1, d2] => { results := [.lit (.bool false)], args := [d1, d2] }
  | _ => none }
def FnExactAddFracsWrongFalsely : Prop := fnExactAddFracsRow.holds Try.pinned (OpenSpec.ofChange fnExactAddFracsWrong)

/-- 'laws.FnExactSubFracs': WHATEVER THE INPUT: true; the input reads as it did. -/
def fnExactSubFracsSpec : ChangeSpec := { name := "fnExactSubFracs", fn := fun _ => fun
  | [d1, d2] => { results := [.lit (.bool true)], args := [d1, d2] }
  | _ => none }
def fnExactSubFracsRow : OpenClaim := { program := "ytnijgondbpnpfaa", sum := "d893743e693dfb7c027f39c3f7f48851ff0fb6416560e399d2250d0d7e433c10", func := "loop.example/g01254/laws.FnExactSubFracs", spec := "fnExactSubFracs", unfollowed := true, recurses := true, plainKeys := false, apart := false }
def FnExactSubFracsSaid : Prop := fnExactSubFracsRow.holds Try.pinned (OpenSpec.ofChange fnExactSubFracsSpec)

/-- ITS FALSE NEIGHBOUR: 'it returns false'. Refute it at one input. -/
def fnExactSubFracsWrong : ChangeSpec := { name := "fnExactSubFracs", fn := fun _ => fun
  | [d1, d2] => { results := [.lit (.bool false)], args := [d1, d2] }
  | _ => none }
def FnExactSubFracsWrongFalsely : Prop := fnExactSubFracsRow.holds Try.pinned (OpenSpec.ofChange fnExactSubFracsWrong)

/-- 'laws.FnExactMulFracs': WHATEVER THE INPUT: true; the input reads as it did. -/
def fnExactMulFracsSpec : ChangeSpec := { name := "fnExactMulFracs", fn := fun _ => fun
  | [d1, d2] => { results := [.lit (.bool true)], args := [d1, d2] }
  | _ => none }
def fnExactMulFracsRow : OpenClaim := { program := "ytnijgondbpnpfaa", sum := "d893743e693dfb7c027f39c3f7f48851ff0fb6416560e399d2250d0d7e433c10", func := "loop.example/g01254/laws.FnExactMulFracs", spec := "fnExactMulFracs", unfollowed := true, recurses := true, plainKeys := false, apart := false }
def FnExactMulFracsSaid : Prop := fnExactMulFracsRow.holds Try.pinned (OpenSpec.ofChange fnExactMulFracsSpec)

/-- ITS FALSE NEIGHBOUR: 'it returns false'. Refute it at one input. -/
def fnExactMulFracsWrong : ChangeSpec := { name := "fnExactMulFracs", fn := fun _ => fun
  | [d1, d2] => { results := [.lit (.bool false)], args := [d1, d2] }
  | _ => none }
def FnExactMulFracsWrongFalsely : Prop := fnExactMulFracsRow.holds Try.pinned (OpenSpec.ofChange fnExactMulFracsWrong)

/-- 'laws.FnExactDivFracs': WHATEVER THE INPUT: true; the input reads as it did. -/
def fnExactDivFracsSpec : ChangeSpec := { name := "fnExactDivFracs", fn := fun _ => fun
  | [d1, d2] => { results := [.lit (.bool true)], args := [d1, d2] }
  | _ => none }
def fnExactDivFracsRow : OpenClaim := { program := "ytnijgondbpnpfaa", sum := "d893743e693dfb7c027f39c3f7f48851ff0fb6416560e399d2250d0d7e433c10", func := "loop.example/g01254/laws.FnExactDivFracs", spec := "fnExactDivFracs", unfollowed := true, recurses := true, plainKeys := false, apart := false }
def FnExactDivFracsSaid : Prop := fnExactDivFracsRow.holds Try.pinned (OpenSpec.ofChange fnExactDivFracsSpec)

/-- ITS FALSE NEIGHBOUR: 'it returns false'. Refute it at one input. -/
def fnExactDivFracsWrong : ChangeSpec := { name := "fnExactDivFracs", fn := fun _ => fun
  | [d1, d2] => { results := [.lit (.bool false)], args := [d1, d2] }
  | _ => none }
def FnExactDivFracsWrongFalsely : Prop := fnExactDivFracsRow.holds Try.pinned (OpenSpec.ofChange fnExactDivFracsWrong)

/-- 'laws.FnExactCompareFracs': WHATEVER THE INPUT: true; the input reads as it did. -/
def fnExactCompareFracsSpec : ChangeSpec := { name := "fnExactCompareFracs", fn := fun _ => fun
  | [d1, d2] => { results := [.lit (.bool true)], args := [d1, d2] }
  | _ => none }
def fnExactCompareFracsRow : OpenClaim := { program := "ytnijgondbpnpfaa", sum := "d893743e693dfb7c027f39c3f7f48851ff0fb6416560e399d2250d0d7e433c10", func := "loop.example/g01254/laws.FnExactCompareFracs", spec := "fnExactCompareFracs", plainKeys := false, apart := false }
def FnExactCompareFracsSaid : Prop := fnExactCompareFracsRow.holds Try.pinned (OpenSpec.ofChange fnExactCompareFracsSpec)

/-- ITS FALSE NEIGHBOUR: 'it returns false'. Refute it at one input. -/
def fnExactCompareFracsWrong : ChangeSpec := { name := "fnExactCompareFracs", fn := fun _ => fun
  | [d1, d2] => { results := [.lit (.bool false)], args := [d1, d2] }
  | _ => none }
def FnExactCompareFracsWrongFalsely : Prop := fnExactCompareFracsRow.holds Try.pinned (OpenSpec.ofChange fnExactCompareFracsWrong)

/-- 'laws.FnExactNearestTo': WHATEVER THE INPUT: true; the input reads as it did. -/
def fnExactNearestToSpec : ChangeSpec := { name := "fnExactNearestTo", fn := fun _ => fun
  | [d1, d2] => { results := [.lit (.bool true)], args := [d1, d2] }
  | _ => none }
def fnExactNearestToRow : OpenClaim := { program := "ytnijgondbpnpfaa", sum := "d893743e693dfb7c027f39c3f7f48851ff0fb6416560e399d2250d0d7e433c10", func := "loop.example/g01254/laws.FnExactNearestTo", spec := "fnExactNearestTo", unfollowed := true, recurses := true, plainKeys := false, apart := false }
def FnExactNearestToSaid : Prop := fnExactNearestToRow.holds Try.pinned (OpenSpec.ofChange fnExactNearestToSpec)

/-- ITS FALSE NEIGHBOUR: 'it returns false'. Refute it at one input. -/
def fnExactNearestToWrong : ChangeSpec := { name := "fnExactNearestTo", fn := fun _ => fun
  | [d1, d2] => { results := [.lit (.bool false)], args := [d1, d2] }
  | _ => none }
def FnExactNearestToWrongFalsely : Prop := fnExactNearestToRow.holds Try.pinned (OpenSpec.ofChange fnExactNearestToWrong)

/-- 'laws.FnExactFloorOf': WHATEVER THE INPUT: true; the input reads as it did. -/
def fnExactFloorOfSpec : ChangeSpec := { name := "fnExactFloorOf", fn := fun _ => fun
  | [d] => { results := [.lit (.bool true)], args := [d] }
  | _ => none }
def fnExactFloorOfRow : OpenClaim := { program := "ytnijgondbpnpfaa", sum := "d893743e693dfb7c027f39c3f7f48851ff0fb6416560e399d2250d0d7e433c10", func := "loop.example/g01254/laws.FnExactFloorOf", spec := "fnExactFloorOf", plainKeys := false, apart := false }
def FnExactFloorOfSaid : Prop := fnExactFloorOfRow.holds Try.pinned (OpenSpec.ofChange fnExactFloorOfSpec)

/-- ITS FALSE NEIGHBOUR: 'it returns false'. Refute it at one input. -/
def fnExactFloorOfWrong : ChangeSpec := { name := "fnExactFloorOf", fn := fun _ => fun
  | [d] => { results := [.lit (.bool false)], args := [d] }
  | _ => none }
def FnExactFloorOfWrongFalsely : Prop := fnExactFloorOfRow.holds Try.pinned (OpenSpec.ofChange fnExactFloorOfWrong)

/-- 'laws.FnExactSumOf': WHATEVER THE INPUT: true; the input reads as it did. -/
def fnExactSumOfSpec : ChangeSpec := { name := "fnExactSumOf", fn := fun _ => fun
  | [d] => { results := [.lit (.bool true)], args := [d] }
  | _ => none }
def fnExactSumOfRow : OpenClaim := { program := "ytnijgondbpnpfaa", sum := "d893743e693dfb7c027f39c3f7f48851ff0fb6416560e399d2250d0d7e433c10", func := "loop.example/g01254/laws.FnExactSumOf", spec := "fnExactSumOf", unfollowed := true, recurses := true, plainKeys := false, apart := false }
def FnExactSumOfSaid : Prop := fnExactSumOfRow.holds Try.pinned (OpenSpec.ofChange fnExactSumOfSpec)

/-- ITS FALSE NEIGHBOUR: 'it returns false'. Refute it at one input. -/
def fnExactSumOfWrong : ChangeSpec := { name := "fnExactSumOf", fn := fun _ => fun
  | [d] => { results := [.lit (.bool false)], args := [d] }
  | _ => none }
def FnExactSumOfWrongFalsely : Prop := fnExactSumOfRow.holds Try.pinned (OpenSpec.ofChange fnExactSumOfWrong)

/-- 'laws.FnExactMeanOf': WHATEVER THE INPUT: true; the input reads as it did. -/
def fnExactMeanOfSpec : ChangeSpec := { name := "fnExactMeanOf", fn := fun _ => fun
  | [d] => { results := [.lit (.bool true)], args := [d] }
  | _ => none }
def fnExactMeanOfRow : OpenClaim := { program := "ytnijgondbpnpfaa", sum := "d893743e693dfb7c027f39c3f7f48851ff0fb6416560e399d2250d0d7e433c10", func := "loop.example/g01254/laws.FnExactMeanOf", spec := "fnExactMeanOf", unfollowed := true, recurses := true, plainKeys := false, apart := false }
def FnExactMeanOfSaid : Prop := fnExactMeanOfRow.holds Try.pinned (OpenSpec.ofChange fnExactMeanOfSpec)

/-- ITS FALSE NEIGHBOUR: 'it returns false'. Refute it at one input. -/
def fnExactMeanOfWrong : ChangeSpec := { name := "fnExactMeanOf", fn := fun _ => fun
  | [d] => { results := [.lit (.bool false)], args := [d] }
  | _ => none }
def FnExactMeanOfWrongFalsely : Prop := fnExactMeanOfRow.holds Try.pinned (OpenSpec.ofChange fnExactMeanOfWrong)

/-- 'laws.FnExactMiddleOf': WHATEVER THE INPUT: true; the input reads as it did. -/
def fnExactMiddleOfSpec : ChangeSpec := { name := "fnExactMiddleOf", fn := fun _ => fun
  | [d] => { results := [.lit (.bool true)], args := [d] }
  | _ => none }
def fnExactMiddleOfRow : OpenClaim := { program := "ytnijgondbpnpfaa", sum := "d893743e693dfb7c027f39c3f7f48851ff0fb6416560e399d2250d0d7e433c10", func := "loop.example/g01254/laws.FnExactMiddleOf", spec := "fnExactMiddleOf", unfollowed := true, recurses := true, plainKeys := false, apart := false }
def FnExactMiddleOfSaid : Prop := fnExactMiddleOfRow.holds Try.pinned (OpenSpec.ofChange fnExactMiddleOfSpec)

/-- ITS FALSE NEIGHBOUR: 'it returns false'. Refute it at one input. -/
def fnExactMiddleOfWrong : ChangeSpec := { name := "fnExactMiddleOf", fn := fun _ => fun
  | [d] => { results := [.lit (.bool false)], args := [d] }
  | _ => none }
def FnExactMiddleOfWrongFalsely : Prop := fnExactMiddleOfRow.holds Try.pinned (OpenSpec.ofChange fnExactMiddleOfWrong)

/-- 'laws.FnExactValidSpan': WHATEVER THE INPUT: true; the input reads as it did. -/
def fnExactValidSpanSpec : ChangeSpec := { name := "fnExactValidSpan", fn := fun _ => fun
  | [d] => { results := [.lit (.bool true)], args := [d] }
  | _ => none }
def fnExactValidSpanRow : OpenClaim := { program := "ytnijgondbpnpfaa", sum := "d893743e693dfb7c027f39c3f7f48851ff0fb6416560e399d2250d0d7e433c10", func := "loop.example/g01254/laws.FnExactValidSpan", spec := "fnExactValidSpan", plainKeys := false, apart := false }
def FnExactValidSpanSaid : Prop := fnExactValidSpanRow.holds Try.pinned (OpenSpec.ofChange fnExactValidSpanSpec)

/-- ITS FALSE NEIGHBOUR: 'it returns false'. Refute it at one input. -/
def fnExactValidSpanWrong : ChangeSpec := { name := "fnExactValidSpan", fn := fun _ => fun
  | [d] => { results := [.lit (.bool false)], args := [d] }
  | _ => none }
def FnExactValidSpanWrongFalsely : Prop := fnExactValidSpanRow.holds Try.pinned (OpenSpec.ofChange fnExactValidSpanWrong)

/-- 'laws.FnExactSpanAround': WHATEVER THE INPUT: true; the input reads as it did. -/
def fnExactSpanAroundSpec : ChangeSpec := { name := "fnExactSpanAround", fn := fun _ => fun
  | [d1, d2] => { results := [.lit (.bool true)], args := [d1, d2] }
  | _ => none }
def fnExactSpanAroundRow : OpenClaim := { program := "ytnijgondbpnpfaa", sum := "d893743e693dfb7c027f39c3f7f48851ff0fb6416560e399d2250d0d7e433c10", func := "loop.example/g01254/laws.FnExactSpanAround", spec := "fnExactSpanAround", unfollowed := true, recurses := true, plainKeys := false, apart := false }
def FnExactSpanAroundSaid : Prop := fnExactSpanAroundRow.holds Try.pinned (OpenSpec.ofChange fnExactSpanAroundSpec)

/-- ITS FALSE NEIGHBOUR: 'it returns false'. Refute it at one input. -/
def fnExactSpanAroundWrong : ChangeSpec := { name := "fnExactSpanAround", fn := fun _ => fun
  | [d1, d2] => { results := [.lit (.bool false)], args := [d1, d2] }
  | _ => none }
def FnExactSpanAroundWrongFalsely : Prop := fnExactSpanAroundRow.holds Try.pinned (OpenSpec.ofChange fnExactSpanAroundWrong)

/-- 'laws.FnExactInSpan': WHATEVER THE INPUT: true; the input reads as it did. -/
def fnExactInSpanSpec : ChangeSpec := { name := "fnExactInSpan", fn := fun _ => fun
  | [d1, d2] => { results := [.lit (.bool true)], args := [d1, d2] }
  | _ => none }
def fnExactInSpanRow : OpenClaim := { program := "ytnijgondbpnpfaa", sum := "d893743e693dfb7c027f39c3f7f48851ff0fb6416560e399d2250d0d7e433c10", func := "loop.example/g01254/laws.FnExactInSpan", spec := "fnExactInSpan", plainKeys := false, apart := false }
def FnExactInSpanSaid : Prop := fnExactInSpanRow.holds Try.pinned (OpenSpec.ofChange fnExactInSpanSpec)

/-- ITS FALSE NEIGHBOUR: 'it returns false'. Refute it at one input. -/
def fnExactInSpanWrong : ChangeSpec := { name := "fnExactInSpan", fn := fun _ => fun
  | [d1, d2] => { results := [.lit (.bool false)], args := [d1, d2] }
  | _ => none }
def FnExactInSpanWrongFalsely : Prop := fnExactInSpanRow.holds Try.pinned (OpenSpec.ofChange fnExactInSpanWrong)

/-- 'laws.FnExactWidthOf': WHATEVER THE INPUT: true; the input reads as it did. -/
def fnExactWidthOfSpec : ChangeSpec := { name := "fnExactWidthOf", fn := fun _ => fun
  | [d] => { results := [.lit (.bool true)], args := [d] }
  | _ => none }
def fnExactWidthOfRow : OpenClaim := { program := "ytnijgondbpnpfaa", sum := "d893743e693dfb7c027f39c3f7f48851ff0fb6416560e399d2250d0d7e433c10", func := "loop.example/g01254/laws.FnExactWidthOf", spec := "fnExactWidthOf", unfollowed := true, recurses := true, plainKeys := false, apart := false }
def FnExactWidthOfSaid : Prop := fnExactWidthOfRow.holds Try.pinned (OpenSpec.ofChange fnExactWidthOfSpec)

/-- ITS FALSE NEIGHBOUR: 'it returns false'. Refute it at one input. -/
def fnExactWidthOfWrong : ChangeSpec := { name := "fnExactWidthOf", fn := fun _ => fun
  | [d] => { results := [.lit (.bool false)], args := [d] }
  | _ => none }
def FnExactWidthOfWrongFalsely : Prop := fnExactWidthOfRow.holds Try.pinned (OpenSpec.ofChange fnExactWidthOfWrong)

/-- 'laws.FnExactAddSpans': WHATEVER THE INPUT: true; the input reads as it did. -/
def fnExactAddSpansSpec : ChangeSpec := { name := "fnExactAddSpans", fn := fun _ => fun
  | [d1, d2] => { results := [.lit (.bool true)], args := [d1, d2] }
  | _ => none }
def fnExactAddSpansRow : OpenClaim := { program := "ytnijgondbpnpfaa", sum := "d893743e693dfb7c027f39c3f7f48851ff0fb6416560e399d2250d0d7e433c10", func := "loop.example/g01254/laws.FnExactAddSpans", spec := "fnExactAddSpans", unfollowed := true, recurses := true, plainKeys := false, apart := false }
def FnExactAddSpansSaid : Prop := fnExactAddSpansRow.holds Try.pinned (OpenSpec.ofChange fnExactAddSpansSpec)

/-- ITS FALSE NEIGHBOUR: 'it returns false'. Refute it at one input. -/
def fnExactAddSpansWrong : ChangeSpec := { name := "fnExactAddSpans", fn := fun _ => fun
  | [d1, d2] => { results := [.lit (.bool false)], args := [d1, d2] }
  | _ => none }
def FnExactAddSpansWrongFalsely : Prop := fnExactAddSpansRow.holds Try.pinned (OpenSpec.ofChange fnExactAddSpansWrong)

/-- 'laws.FnExactSubSpans': WHATEVER THE INPUT: true; the input reads as it did. -/
def fnExactSubSpansSpec : ChangeSpec := { name := "fnExactSubSpans", fn := fun _ => fun
  | [d1, d2] => { results := [.lit (.bool true)], args := [d1, d2] }
  | _ => none }
def fnExactSubSpansRow : OpenClaim := { program := "ytnijgondbpnpfaa", sum := "d893743e693dfb7c027f39c3f7f48851ff0fb6416560e399d2250d0d7e433c10", func := "loop.example/g01254/laws.FnExactSubSpans", spec := "fnExactSubSpans", unfollowed := true, recurses := true, plainKeys := false, apart := false }
def FnExactSubSpansSaid : Prop := fnExactSubSpansRow.holds Try.pinned (OpenSpec.ofChange fnExactSubSpansSpec)

/-- ITS FALSE NEIGHBOUR: 'it returns false'. Refute it at one input. -/
def fnExactSubSpansWrong : ChangeSpec := { name := "fnExactSubSpans", fn := fun _ => fun
  | [d1, d2] => { results := [.lit (.bool false)], args := [d1, d2] }
  | _ => none }
def FnExactSubSpansWrongFalsely : Prop := fnExactSubSpansRow.holds Try.pinned (OpenSpec.ofChange fnExactSubSpansWrong)

/-- 'laws.FnExactMulSpans': WHATEVER THE INPUT: true; the input reads as it did. -/
def fnExactMulSpansSpec : ChangeSpec := { name := "fnExactMulSpans", fn := fun _ => fun
  | [d1, d2] => { results := [.lit (.bool true)], args := [d1, d2] }
  | _ => none }
def fnExactMulSpansRow : OpenClaim := { program := "ytnijgondbpnpfaa", sum := "d893743e693dfb7c027f39c3f7f48851ff0fb6416560e399d2250d0d7e433c10", func := "loop.example/g01254/laws.FnExactMulSpans", spec := "fnExactMulSpans", unfollowed := true, recurses := true, plainKeys := false, apart := false }
def FnExactMulSpansSaid : Prop := fnExactMulSpansRow.holds Try.pinned (OpenSpec.ofChange fnExactMulSpansSpec)

/-- ITS FALSE NEIGHBOUR: 'it returns false'. Refute it at one input. -/
def fnExactMulSpansWrong : ChangeSpec := { name := "fnExactMulSpans", fn := fun _ => fun
  | [d1, d2] => { results := [.lit (.bool false)], args := [d1, d2] }
  | _ => none }
def FnExactMulSpansWrongFalsely : Prop := fnExactMulSpansRow.holds Try.pinned (OpenSpec.ofChange fnExactMulSpansWrong)

/-- 'laws.FnExactMeetSpans': WHATEVER THE INPUT: true; the input reads as it did. -/
def fnExactMeetSpansSpec : ChangeSpec := { name := "fnExactMeetSpans", fn := fun _ => fun
  | [d1, d2] => { results := [.lit (.bool true)], args := [d1, d2] }
  | _ => none }
def fnExactMeetSpansRow : OpenClaim := { program := "ytnijgondbpnpfaa", sum := "d893743e693dfb7c027f39c3f7f48851ff0fb6416560e399d2250d0d7e433c10", func := "loop.example/g01254/laws.FnExactMeetSpans", spec := "fnExactMeetSpans", plainKeys := false, apart := false }
def FnExactMeetSpansSaid : Prop := fnExactMeetSpansRow.holds Try.pinned (OpenSpec.ofChange fnExactMeetSpansSpec)

/-- ITS FALSE NEIGHBOUR: 'it returns false'. Refute it at one input. -/
def fnExactMeetSpansWrong : ChangeSpec := { name := "fnExactMeetSpans", fn := fun _ => fun
  | [d1, d2] => { results := [.lit (.bool false)], args := [d1, d2] }
  | _ => none }
def FnExactMeetSpansWrongFalsely : Prop := fnExactMeetSpansRow.holds Try.pinned (OpenSpec.ofChange fnExactMeetSpansWrong)

/-- 'laws.FnExactHullOf': WHATEVER THE INPUT: true; the input reads as it did. -/
def fnExactHullOfSpec : ChangeSpec := { name := "fnExactHullOf", fn := fun _ => fun
  | [d] => { results := [.lit (.bool true)], args := [d] }
  | _ => none }
def fnExactHullOfRow : OpenClaim := { program := "ytnijgondbpnpfaa", sum := "d893743e693dfb7c027f39c3f7f48851ff0fb6416560e399d2250d0d7e433c10", func := "loop.example/g01254/laws.FnExactHullOf", spec := "fnExactHullOf", unfollowed := true, recurses := true, plainKeys := false, apart := false }
def FnExactHullOfSaid : Prop := fnExactHullOfRow.holds Try.pinned (OpenSpec.ofChange fnExactHullOfSpec)

/-- ITS FALSE NEIGHBOUR: 'it returns false'. Refute it at one input. -/
def fnExactHullOfWrong : ChangeSpec := { name := "fnExactHullOf", fn := fun _ => fun
  | [d] => { results := [.lit (.bool false)], args := [d] }
  | _ => none }
def FnExactHullOfWrongFalsely : Prop := fnExactHullOfRow.holds Try.pinned (OpenSpec.ofChange fnExactHullOfWrong)

/- THE SECOND FORM. 'bulk': how many values and letters a reading holds, each counted each time it is reached (what is shared counts as often as it is met; a slice's spare places count too). A statement '..UptoSaid' is the law's where the arguments, and the package variables that the reading takes, are together of bulk at most 1048576: NARROWER than '..Said'. Prove '..Said' where nothing that the law and all that it calls make is longer than what came in: it says more and counts as full. Else prove '..UptoSaid'. A law counts once. -/
mutual
def uptoBulk {H : Type} : DataW H → Nat
  | .lit (.string bytes) => bytes.length + 1
  | .lit _ => 1
  | .nil => 1
  | .ptr d => uptoBulk d + 1
  | .slice elems spare => uptoBulkAll elems + uptoBulkAll spare + 1
  | .agg parts => uptoBulkAll parts + 1
  | .iface _ d => uptoBulk d + 1
  | .map entries => uptoBulkEntries entries + 1
  | .held _ => 1
def uptoBulkAll {H : Type} : List (DataW H) → Nat
  | [] => 0
  | d :: r => uptoBulk d + uptoBulkAll r
def uptoBulkEntries {H : Type} : List (Lit × DataW H) → Nat
  | [] => 0
  | x :: r => uptoBulkEntry x + uptoBulkEntries r
def uptoBulkEntry {H : Type} : Lit × DataW H → Nat
  | (.string bytes, d) => bytes.length + uptoBulk d + 1
  | (_, d) => uptoBulk d + 1
 end
def uptoSmall : (H : Type) → List (DataW H) → Bool := fun _ ds => decide (uptoBulkAll ds ≤ 1048576)
def OpenSpec.upto (s : _root_.Go.ChangeSpec) : _root_.Go.OpenSpec := { _root_.Go.OpenSpec.ofChange s with cond := some uptoSmall }

/-- 'laws.FnExactValidFrac', WHERE WHAT IT READS IS OF BULK AT MOST 1048576: true; the input reads as it did. -/
def fnExactValidFracUptoRow : OpenClaim := { program := "ytnijgondbpnpfaa", sum := "d893743e693dfb7c027f39c3f7f48851ff0fb6416560e399d2250d0d7e433c10", func := "loop.example/g01254/laws.FnExactValidFrac", spec := "fnExactValidFrac", plainKeys := false, apart := false, narrowed := true }
def FnExactValidFracUptoSaid : Prop := fnExactValidFracUptoRow.holds Try.pinned (OpenSpec.upto fnExactValidFracSpec)

/-- 'laws.FnExactMakeFrac', WHERE WHAT IT READS IS OF BULK AT MOST 1048576: true; the input reads as it did. -/
def fnExactMakeFracUptoRow : OpenClaim := { program := "ytnijgondbpnpfaa", sum := "d893743e693dfb7c027f39c3f7f48851ff0fb6416560e399d2250d0d7e433c10", func := "loop.example/g01254/laws.FnExactMakeFrac", spec := "fnExactMakeFrac", unfollowed := true, recurses := true, plainKeys := false, apart := false, narrowed := true }
def FnExactMakeFracUptoSaid : Prop := fnExactMakeFracUptoRow.holds Try.pinned (OpenSpec.upto fnExactMakeFracSpec)

/-- 'laws.FnExactWhole', WHERE WHAT IT READS IS OF BULK AT MOST 1048576: true; the input reads as it did. -/
def fnExactWholeUptoRow : OpenClaim := { program := "ytnijgondbpnpfaa", sum := "d893743e693dfb7c027f39c3f7f48851ff0fb6416560e399d2250d0d7e433c10", func := "loop.example/g01254/laws.FnExactWhole", spec := "fnExactWhole", unfollowed := true, recurses := true, plainKeys := false, apart := false, narrowed := true }
def FnExactWholeUptoSaid : Prop := fnExactWholeUptoRow.holds Try.pinned (OpenSpec.upto fnExactWholeSpec)

/-- 'laws.FnExactAddFracs', WHERE WHAT IT READS IS OF BULK AT MOST 1048576: true; the input reads as it did. -/
def fnExactAddFracsUptoRow : OpenClaim := { program := "ytnijgondbpnpfaa", sum := "d893743e693dfb7c027f39c3f7f48851ff0fb6416560e399d2250d0d7e433c10", func := "loop.example/g01254/laws.FnExactAddFracs", spec := "fnExactAddFracs", unfollowed := true, recurses := true, plainKeys := false, apart := false, narrowed := true }
def FnExactAddFracsUptoSaid : Prop := fnExactAddFracsUptoRow.holds Try.pinned (OpenSpec.upto fnExactAddFracsSpec)

/-- 'laws.FnExactSubFracs', WHERE WHAT IT READS IS OF BULK AT MOST 1048576: true; the input reads as it did. -/
def fnExactSubFracsUptoRow : OpenClaim := { program := "ytnijgondbpnpfaa", sum := "d893743e693dfb7c027f39c3f7f48851ff0fb6416560e399d2250d0d7e433c10", func := "loop.example/g01254/laws.FnExactSubFracs", spec := "fnExactSubFracs", unfollowed := true, recurses := true, plainKeys := false, apart := false, narrowed := true }
def FnExactSubFracsUptoSaid : Prop := fnExactSubFracsUptoRow.holds Try.pinned (OpenSpec.upto fnExactSubFracsSpec)

/-- 'laws.FnExactMulFracs', WHERE WHAT IT READS IS OF BULK AT MOST 1048576: true; the input reads as it did. -/
def fnExactMulFracsUptoRow : OpenClaim := { program := "ytnijgondbpnpfaa", sum := "d893743e693dfb7c027f39c3f7f48851ff0fb6416560e399d2250d0d7e433c10", func := "loop.example/g01254/laws.FnExactMulFracs", spec := "fnExactMulFracs", unfollowed := true, recurses := true, plainKeys := false, apart := false, narrowed := true }
def FnExactMulFracsUptoSaid : Prop := fnExactMulFracsUptoRow.holds Try.pinned (OpenSpec.upto fnExactMulFracsSpec)

/-- 'laws.FnExactDivFracs', WHERE WHAT IT READS IS OF BULK AT MOST 1048576: true; the input reads as it did. -/
def fnExactDivFracsUptoRow : OpenClaim := { program := "ytnijgondbpnpfaa", sum := "d893743e693dfb7c027f39c3f7f48851ff0fb6416560e399d2250d0d7e433c10", func := "loop.example/g01254/laws.FnExactDivFracs", spec := "fnExactDivFracs", unfollowed := true, recurses := true, plainKeys := false, apart := false, narrowed := true }
def FnExactDivFracsUptoSaid : Prop := fnExactDivFracsUptoRow.holds Try.pinned (OpenSpec.upto fnExactDivFracsSpec)

/-- 'laws.FnExactCompareFracs', WHERE WHAT IT READS IS OF BULK AT MOST 1048576: true; the input reads as it did. -/
def fnExactCompareFracsUptoRow : OpenClaim := { program := "ytnijgondbpnpfaa", sum := "d893743e693dfb7c027f39c3f7f48851ff0fb6416560e399d2250d0d7e433c10", func := "loop.example/g01254/laws.FnExactCompareFracs", spec := "fnExactCompareFracs", plainKeys := false, apart := false, narrowed := true }
def FnExactCompareFracsUptoSaid : Prop := fnExactCompareFracsUptoRow.holds Try.pinned (OpenSpec.upto fnExactCompareFracsSpec)

/-- 'laws.FnExactNearestTo', WHERE WHAT IT READS IS OF BULK AT MOST 1048576: true; the input reads as it did. -/
def fnExactNearestToUptoRow : OpenClaim := { program := "ytnijgondbpnpfaa", sum := "d893743e693dfb7c027f39c3f7f48851ff0fb6416560e399d2250d0d7e433c10", func := "loop.example/g01254/laws.FnExactNearestTo", spec := "fnExactNearestTo", unfollowed := true, recurses := true, plainKeys := false, apart := false, narrowed := true }
def FnExactNearestToUptoSaid : Prop := fnExactNearestToUptoRow.holds Try.pinned (OpenSpec.upto fnExactNearestToSpec)

/-- 'laws.FnExactFloorOf', WHERE WHAT IT READS IS OF BULK AT MOST 1048576: true; the input reads as it did. -/
def fnExactFloorOfUptoRow : OpenClaim := { program := "ytnijgondbpnpfaa", sum := "d893743e693dfb7c027f39c3f7f48851ff0fb6416560e399d2250d0d7e433c10", func := "loop.example/g01254/laws.FnExactFloorOf", spec := "fnExactFloorOf", plainKeys := false, apart := false, narrowed := true }
def FnExactFloorOfUptoSaid : Prop := fnExactFloorOfUptoRow.holds Try.pinned (OpenSpec.upto fnExactFloorOfSpec)

/-- 'laws.FnExactSumOf', WHERE WHAT IT READS IS OF BULK AT MOST 1048576: true; the input reads as it did. -/
def fnExactSumOfUptoRow : OpenClaim := { program := "ytnijgondbpnpfaa", sum := "d893743e693dfb7c027f39c3f7f48851ff0fb6416560e399d2250d0d7e433c10", func := "loop.example/g01254/laws.FnExactSumOf", spec := "fnExactSumOf", unfollowed := true, recurses := true, plainKeys := false, apart := false, narrowed := true }
def FnExactSumOfUptoSaid : Prop := fnExactSumOfUptoRow.holds Try.pinned (OpenSpec.upto fnExactSumOfSpec)

/-- 'laws.FnExactMeanOf', WHERE WHAT IT READS IS OF BULK AT MOST 1048576: true; the input reads as it did. -/
def fnExactMeanOfUptoRow : OpenClaim := { program := "ytnijgondbpnpfaa", sum := "d893743e693dfb7c027f39c3f7f48851ff0fb6416560e399d2250d0d7e433c10", func := "loop.example/g01254/laws.FnExactMeanOf", spec := "fnExactMeanOf", unfollowed := true, recurses := true, plainKeys := false, apart := false, narrowed := true }
def FnExactMeanOfUptoSaid : Prop := fnExactMeanOfUptoRow.holds Try.pinned (OpenSpec.upto fnExactMeanOfSpec)

/-- 'laws.FnExactMiddleOf', WHERE WHAT IT READS IS OF BULK AT MOST 1048576: true; the input reads as it did. -/
def fnExactMiddleOfUptoRow : OpenClaim := { program := "ytnijgondbpnpfaa", sum := "d893743e693dfb7c027f39c3f7f48851ff0fb6416560e399d2250d0d7e433c10", func := "loop.example/g01254/laws.FnExactMiddleOf", spec := "fnExactMiddleOf", unfollowed := true, recurses := true, plainKeys := false, apart := false, narrowed := true }
def FnExactMiddleOfUptoSaid : Prop := fnExactMiddleOfUptoRow.holds Try.pinned (OpenSpec.upto fnExactMiddleOfSpec)

/-- 'laws.FnExactValidSpan', WHERE WHAT IT READS IS OF BULK AT MOST 1048576: true; the input reads as it did. -/
def fnExactValidSpanUptoRow : OpenClaim := { program := "ytnijgondbpnpfaa", sum := "d893743e693dfb7c027f39c3f7f48851ff0fb6416560e399d2250d0d7e433c10", func := "loop.example/g01254/laws.FnExactValidSpan", spec := "fnExactValidSpan", plainKeys := false, apart := false, narrowed := true }
def FnExactValidSpanUptoSaid : Prop := fnExactValidSpanUptoRow.holds Try.pinned (OpenSpec.upto fnExactValidSpanSpec)

/-- 'laws.FnExactSpanAround', WHERE WHAT IT READS IS OF BULK AT MOST 1048576: true; the input reads as it did. -/
def fnExactSpanAroundUptoRow : OpenClaim := { program := "ytnijgondbpnpfaa", sum := "d893743e693dfb7c027f39c3f7f48851ff0fb6416560e399d2250d0d7e433c10", func := "loop.example/g01254/laws.FnExactSpanAround", spec := "fnExactSpanAround", unfollowed := true, recurses := true, plainKeys := false, apart := false, narrowed := true }
def FnExactSpanAroundUptoSaid : Prop := fnExactSpanAroundUptoRow.holds Try.pinned (OpenSpec.upto fnExactSpanAroundSpec)

/-- 'laws.FnExactInSpan', WHERE WHAT IT READS IS OF BULK AT MOST 1048576: true; the input reads as it did. -/
def fnExactInSpanUptoRow : OpenClaim := { program := "ytnijgondbpnpfaa", sum := "d893743e693dfb7c027f39c3f7f48851ff0fb6416560e399d2250d0d7e433c10", func := "loop.example/g01254/laws.FnExactInSpan", spec := "fnExactInSpan", plainKeys := false, apart := false, narrowed := true }
def FnExactInSpanUptoSaid : Prop := fnExactInSpanUptoRow.holds Try.pinned (OpenSpec.upto fnExactInSpanSpec)

/-- 'laws.FnExactWidthOf', WHERE WHAT IT READS IS OF BULK AT MOST 1048576: true; the input reads as it did. -/
def fnExactWidthOfUptoRow : OpenClaim := { program := "ytnijgondbpnpfaa", sum := "d893743e693dfb7c027f39c3f7f48851ff0fb6416560e399d2250d0d7e433c10", func := "loop.example/g01254/laws.FnExactWidthOf", spec := "fnExactWidthOf", unfollowed := true, recurses := true, plainKeys := false, apart := false, narrowed := true }
def FnExactWidthOfUptoSaid : Prop := fnExactWidthOfUptoRow.holds Try.pinned (OpenSpec.upto fnExactWidthOfSpec)

/-- 'laws.FnExactAddSpans', WHERE WHAT IT READS IS OF BULK AT MOST 1048576: true; the input reads as it did. -/
def fnExactAddSpansUptoRow : OpenClaim := { program := "ytnijgondbpnpfaa", sum := "d893743e693dfb7c027f39c3f7f48851ff0fb6416560e399d2250d0d7e433c10", func := "loop.example/g01254/laws.FnExactAddSpans", spec := "fnExactAddSpans", unfollowed := true, recurses := true, plainKeys := false, apart := false, narrowed := true }
def FnExactAddSpansUptoSaid : Prop := fnExactAddSpansUptoRow.holds Try.pinned (OpenSpec.upto fnExactAddSpansSpec)

/-- 'laws.FnExactSubSpans', WHERE WHAT IT READS IS OF BULK AT MOST 1048576: true; the input reads as it did. -/
def fnExactSubSpansUptoRow : OpenClaim := { program := "ytnijgondbpnpfaa", sum := "d893743e693dfb7c027f39c3f7f48851ff0fb6416560e399d2250d0d7e433c10", func := "loop.example/g01254/laws.FnExactSubSpans", spec := "fnExactSubSpans", unfollowed := true, recurses := true, plainKeys := false, apart := false, narrowed := true }
def FnExactSubSpansUptoSaid : Prop := fnExactSubSpansUptoRow.holds Try.pinned (OpenSpec.upto fnExactSubSpansSpec)

/-- 'laws.FnExactMulSpans', WHERE WHAT IT READS IS OF BULK AT MOST 1048576: true; the input reads as it did. -/
def fnExactMulSpansUptoRow : OpenClaim := { program := "ytnijgondbpnpfaa", sum := "d893743e693dfb7c027f39c3f7f48851ff0fb6416560e399d2250d0d7e433c10", func := "loop.example/g01254/laws.FnExactMulSpans", spec := "fnExactMulSpans", unfollowed := true, recurses := true, plainKeys := false, apart := false, narrowed := true }
def FnExactMulSpansUptoSaid : Prop := fnExactMulSpansUptoRow.holds Try.pinned (OpenSpec.upto fnExactMulSpansSpec)

/-- 'laws.FnExactMeetSpans', WHERE WHAT IT READS IS OF BULK AT MOST 1048576: true; the input reads as it did. -/
def fnExactMeetSpansUptoRow : OpenClaim := { program := "ytnijgondbpnpfaa", sum := "d893743e693dfb7c027f39c3f7f48851ff0fb6416560e399d2250d0d7e433c10", func := "loop.example/g01254/laws.FnExactMeetSpans", spec := "fnExactMeetSpans", plainKeys := false, apart := false, narrowed := true }
def FnExactMeetSpansUptoSaid : Prop := fnExactMeetSpansUptoRow.holds Try.pinned (OpenSpec.upto fnExactMeetSpansSpec)

/-- 'laws.FnExactHullOf', WHERE WHAT IT READS IS OF BULK AT MOST 1048576: true; the input reads as it did. -/
def fnExactHullOfUptoRow : OpenClaim := { program := "ytnijgondbpnpfaa", sum := "d893743e693dfb7c027f39c3f7f48851ff0fb6416560e399d2250d0d7e433c10", func := "loop.example/g01254/laws.FnExactHullOf", spec := "fnExactHullOf", unfollowed := true, recurses := true, plainKeys := false, apart := false, narrowed := true }
def FnExactHullOfUptoSaid : Prop := fnExactHullOfUptoRow.holds Try.pinned (OpenSpec.upto fnExactHullOfSpec)

end Rows
end Go.Proofs.Ytnijgondbpnpfaa
