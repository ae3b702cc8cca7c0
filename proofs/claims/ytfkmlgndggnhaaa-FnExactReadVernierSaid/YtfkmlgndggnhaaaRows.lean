/-
  No cell of these rows narrows 'for every input' (looked for: loops, veiled, ifaces, maps, wideKeys, modest, calm, conditions, laid).
  DERIVED. THE GIVEN ROWS OF THIS SEAT. 12 by the template 'for every input the law returns true; each argument reads behind the call as it read before'; 0 by the template 'total and deterministic' (their statements: YtfkmlgndggnhaaaTotals.lean).
  GIVEN WITH THE SEED: the statements are not yours to turn. If you find one false, say at which input.
  Laid BY PROGRAM, IN A SANDBOX (cutbox-rows.mjs): the forced cells as the released guide's own fill.sh prints them over the translation 27c8979a69ffa3e0… (all of the seat's roots in one cut). By AI agents, Wed Nov 11 2026. No macro, syntax, notation, axiom, sorry.
-/
import Derived.Test.YtfkmlgndggnhaaaChecked
import GoSem.Claim
import GoSem.ClaimJoined
import GoSem.ClaimMapViews
import Derived.JoinedTies
import Derived.KernelRfl
namespace Go.Proofs.Ytfkmlgndggnhaaa
/- THE CELL 'sum', in the pinned program and in every row, IS THE sha256 OF THE DUMP (.gsa) THAT YtfkmlgndggnhaaaProg.lean LOADS. Nothing in Lean hashes anything: it is a label: what it is worth is what the hold of that sum in a sandbox is worth. -/
noncomputable def Try.pinned : Pinned := { name := "ytfkmlgndggnhaaa", sum := "27c8979a69ffa3e03d9ec29c3d7e5da2e133e963641b4c71f91c6e8cff318fd4", checked := Try.checked }
namespace Rows
def none {H : Type} : Left H := { results := [], args := [] }

/-- 'laws.FnExactValidScale': WHATEVER THE INPUT: true; the input reads as it did. -/
def fnExactValidScaleSpec : ChangeSpec := { name := "fnExactValidScale", fn := fun _ => fun
  | [d] => { results := [.lit (.bool true)], args := [d] }
  | _ => none }
def fnExactValidScaleRow : OpenClaim := { program := "ytfkmlgndggnhaaa", sum := "27c8979a69ffa3e03d9ec29c3d7e5da2e133e963641b4c71f91c6e8cff318fd4", func := "loop.example/g01254/laws.FnExactValidScale", spec := "fnExactValidScale", unfollowed := true, recurses := true, apart := false }
def FnExactValidScaleSaid : Prop := fnExactValidScaleRow.holds Try.pinned (OpenSpec.ofChange fnExactValidScaleSpec)

/-- ITS FALSE NEIGHBOUR: 'it returns false'. Refute it at one input. -/
def fnExactValidScaleWrong : ChangeSpec := { name := "fnExactValidScale", fn := fun _ => fun
  | [d] => { results := [.lit (.bool false)], args := [d] }
  | _ => none }
def FnExactValidScaleWrongFalsely : Prop := fnExactValidScaleRow.holds Try.pinned (OpenSpec.ofChange fnExactValidScaleWrong)

/-- 'laws.FnExactSameScale': WHATEVER THE INPUT: true; the input reads as it did. -/
def fnExactSameScaleSpec : ChangeSpec := { name := "fnExactSameScale", fn := fun _ => fun
  | [d1, d2] => { results := [.lit (.bool true)], args := [d1, d2] }
  | _ => none }
def fnExactSameScaleRow : OpenClaim := { program := "ytfkmlgndggnhaaa", sum := "27c8979a69ffa3e03d9ec29c3d7e5da2e133e963641b4c71f91c6e8cff318fd4", func := "loop.example/g01254/laws.FnExactSameScale", spec := "fnExactSameScale", apart := false }
def FnExactSameScaleSaid : Prop := fnExactSameScaleRow.holds Try.pinned (OpenSpec.ofChange fnExactSameScaleSpec)

/-- ITS FALSE NEIGHBOUR: 'it returns false'. Refute it at one input. -/
def fnExactSameScaleWrong : ChangeSpec := { name := "fnExactSameScale", fn := fun _ => fun
  | [d1, d2] => { results := [.lit (.bool false)], args := [d1, d2] }
  | _ => none }
def FnExactSameScaleWrongFalsely : Prop := fnExactSameScaleRow.holds Try.pinned (OpenSpec.ofChange fnExactSameScaleWrong)

/-- 'laws.FnExactEvenScale': WHATEVER THE INPUT: true; the input reads as it did. -/
def fnExactEvenScaleSpec : ChangeSpec := { name := "fnExactEvenScale", fn := fun _ => fun
  | [d1, d2] => { results := [.lit (.bool true)], args := [d1, d2] }
  | _ => none }
def fnExactEvenScaleRow : OpenClaim := { program := "ytfkmlgndggnhaaa", sum := "27c8979a69ffa3e03d9ec29c3d7e5da2e133e963641b4c71f91c6e8cff318fd4", func := "loop.example/g01254/laws.FnExactEvenScale", spec := "fnExactEvenScale", unfollowed := true, recurses := true, apart := false }
def FnExactEvenScaleSaid : Prop := fnExactEvenScaleRow.holds Try.pinned (OpenSpec.ofChange fnExactEvenScaleSpec)

/-- ITS FALSE NEIGHBOUR: 'it returns false'. Refute it at one input. -/
def fnExactEvenScaleWrong : ChangeSpec := { name := "fnExactEvenScale", fn := fun _ => fun
  | [d1, d2] => { results := [.lit (.bool false)], args := [d1, d2] }
  | _ => none }
def FnExactEvenScaleWrongFalsely : Prop := fnExactEvenScaleRow.holds Try.pinned (OpenSpec.ofChange fnExactEvenScaleWrong)

/-- 'laws.FnExactMarkAt': WHATEVER THE INPUT: true; the input reads as it did. -/
def fnExactMarkAtSpec : ChangeSpec := { name := "fnExactMarkAt", fn := fun _ => fun
  | [d1, d2] => { results := [.lit (.bool true)], args := [d1, d2] }
  | _ => none }
def fnExactMarkAtRow : OpenClaim := { program := "ytfkmlgndggnhaaa", sum := "27c8979a69ffa3e03d9ec29c3d7e5da2e133e963641b4c71f91c6e8cff318fd4", func := "loop.example/g01254/laws.FnExactMarkAt", spec := "fnExactMarkAt", unfollowed := true, recurses := true, apart := false }
def FnExactMarkAtSaid : Prop := fnExactMarkAtRow.holds Try.pinned (OpenSpec.ofChange fnExactMarkAtSpec)

/-- ITS FALSE NEIGHBOUR: 'it returns false'. Refute it at one input. -/
def fnExactMarkAtWrong : ChangeSpec := { name := "fnExactMarkAt", fn := fun _ => fun
  | [d1, d2] => { results := [.lit (.bool false)], args := [d1, d2] }
  | _ => none }
def FnExactMarkAtWrongFalsely : Prop := fnExactMarkAtRow.holds Try.pinned (OpenSpec.ofChange fnExactMarkAtWrong)

/-- 'laws.FnExactWorstError': WHATEVER THE INPUT: true; the input reads as it did. -/
def fnExactWorstErrorSpec : ChangeSpec := { name := "fnExactWorstError", fn := fun _ => fun
  | [d] => { results := [.lit (.bool true)], args := [d] }
  | _ => none }
def fnExactWorstErrorRow : OpenClaim := { program := "ytfkmlgndggnhaaa", sum := "27c8979a69ffa3e03d9ec29c3d7e5da2e133e963641b4c71f91c6e8cff318fd4", func := "loop.example/g01254/laws.FnExactWorstError", spec := "fnExactWorstError", unfollowed := true, recurses := true, apart := false }
def FnExactWorstErrorSaid : Prop := fnExactWorstErrorRow.holds Try.pinned (OpenSpec.ofChange fnExactWorstErrorSpec)

/-- ITS FALSE NEIGHBOUR: 'it returns false'. Refute it at one input. -/
def fnExactWorstErrorWrong : ChangeSpec := { name := "fnExactWorstError", fn := fun _ => fun
  | [d] => { results := [.lit (.bool false)], args := [d] }
  | _ => none }
def FnExactWorstErrorWrongFalsely : Prop := fnExactWorstErrorRow.holds Try.pinned (OpenSpec.ofChange fnExactWorstErrorWrong)

/-- 'laws.FnExactNearestMark': WHATEVER THE INPUT: true; the input reads as it did. -/
def fnExactNearestMarkSpec : ChangeSpec := { name := "fnExactNearestMark", fn := fun _ => fun
  | [d1, d2] => { results := [.lit (.bool true)], args := [d1, d2] }
  | _ => none }
def fnExactNearestMarkRow : OpenClaim := { program := "ytfkmlgndggnhaaa", sum := "27c8979a69ffa3e03d9ec29c3d7e5da2e133e963641b4c71f91c6e8cff318fd4", func := "loop.example/g01254/laws.FnExactNearestMark", spec := "fnExactNearestMark", unfollowed := true, recurses := true, apart := false }
def FnExactNearestMarkSaid : Prop := fnExactNearestMarkRow.holds Try.pinned (OpenSpec.ofChange fnExactNearestMarkSpec)

/-- ITS FALSE NEIGHBOUR: 'it returns false'. Refute it at one input. -/
def fnExactNearestMarkWrong : ChangeSpec := { name := "fnExactNearestMark", fn := fun _ => fun
  | [d1, d2] => { results := [.lit (.bool false)], args := [d1, d2] }
  | _ => none }
def FnExactNearestMarkWrongFalsely : Prop := fnExactNearestMarkRow.holds Try.pinned (OpenSpec.ofChange fnExactNearestMarkWrong)

/-- 'laws.FnExactLeastCount': WHATEVER THE INPUT: true; the input reads as it did. -/
def fnExactLeastCountSpec : ChangeSpec := { name := "fnExactLeastCount", fn := fun _ => fun
  | [d1, d2] => { results := [.lit (.bool true)], args := [d1, d2] }
  | _ => none }
def fnExactLeastCountRow : OpenClaim := { program := "ytfkmlgndggnhaaa", sum := "27c8979a69ffa3e03d9ec29c3d7e5da2e133e963641b4c71f91c6e8cff318fd4", func := "loop.example/g01254/laws.FnExactLeastCount", spec := "fnExactLeastCount", unfollowed := true, recurses := true, apart := false }
def FnExactLeastCountSaid : Prop := fnExactLeastCountRow.holds Try.pinned (OpenSpec.ofChange fnExactLeastCountSpec)

/-- ITS FALSE NEIGHBOUR: 'it returns false'. Refute it at one input. -/
def fnExactLeastCountWrong : ChangeSpec := { name := "fnExactLeastCount", fn := fun _ => fun
  | [d1, d2] => { results := [.lit (.bool false)], args := [d1, d2] }
  | _ => none }
def FnExactLeastCountWrongFalsely : Prop := fnExactLeastCountRow.holds Try.pinned (OpenSpec.ofChange fnExactLeastCountWrong)

/-- 'laws.FnExactLineAt': WHATEVER THE INPUT: true; the input reads as it did. -/
def fnExactLineAtSpec : ChangeSpec := { name := "fnExactLineAt", fn := fun _ => fun
  | [d1, d2, d3, d4] => { results := [.lit (.bool true)], args := [d1, d2, d3, d4] }
  | _ => none }
def fnExactLineAtRow : OpenClaim := { program := "ytfkmlgndggnhaaa", sum := "27c8979a69ffa3e03d9ec29c3d7e5da2e133e963641b4c71f91c6e8cff318fd4", func := "loop.example/g01254/laws.FnExactLineAt", spec := "fnExactLineAt", unfollowed := true, recurses := true, apart := false }
def FnExactLineAtSaid : Prop := fnExactLineAtRow.holds Try.pinned (OpenSpec.ofChange fnExactLineAtSpec)

/-- ITS FALSE NEIGHBOUR: 'it returns false'. Refute it at one input. -/
def fnExactLineAtWrong : ChangeSpec := { name := "fnExactLineAt", fn := fun _ => fun
  | [d1, d2, d3, d4] => { results := [.lit (.bool false)], args := [d1, d2, d3, d4] }
  | _ => none }
def FnExactLineAtWrongFalsely : Prop := fnExactLineAtRow.holds Try.pinned (OpenSpec.ofChange fnExactLineAtWrong)

/-- 'laws.FnExactMisfitOf': WHATEVER THE INPUT: true; the input reads as it did. -/
def fnExactMisfitOfSpec : ChangeSpec := { name := "fnExactMisfitOf", fn := fun _ => fun
  | [d1, d2, d3, d4] => { results := [.lit (.bool true)], args := [d1, d2, d3, d4] }
  | _ => none }
def fnExactMisfitOfRow : OpenClaim := { program := "ytfkmlgndggnhaaa", sum := "27c8979a69ffa3e03d9ec29c3d7e5da2e133e963641b4c71f91c6e8cff318fd4", func := "loop.example/g01254/laws.FnExactMisfitOf", spec := "fnExactMisfitOf", unfollowed := true, recurses := true, apart := false }
def FnExactMisfitOfSaid : Prop := fnExactMisfitOfRow.holds Try.pinned (OpenSpec.ofChange fnExactMisfitOfSpec)

/-- ITS FALSE NEIGHBOUR: 'it returns false'. Refute it at one input. -/
def fnExactMisfitOfWrong : ChangeSpec := { name := "fnExactMisfitOf", fn := fun _ => fun
  | [d1, d2, d3, d4] => { results := [.lit (.bool false)], args := [d1, d2, d3, d4] }
  | _ => none }
def FnExactMisfitOfWrongFalsely : Prop := fnExactMisfitOfRow.holds Try.pinned (OpenSpec.ofChange fnExactMisfitOfWrong)

/-- 'laws.FnExactLineThatFits': WHATEVER THE INPUT: true; the input reads as it did. -/
def fnExactLineThatFitsSpec : ChangeSpec := { name := "fnExactLineThatFits", fn := fun _ => fun
  | [d1, d2, d3] => { results := [.lit (.bool true)], args := [d1, d2, d3] }
  | _ => none }
def fnExactLineThatFitsRow : OpenClaim := { program := "ytfkmlgndggnhaaa", sum := "27c8979a69ffa3e03d9ec29c3d7e5da2e133e963641b4c71f91c6e8cff318fd4", func := "loop.example/g01254/laws.FnExactLineThatFits", spec := "fnExactLineThatFits", unfollowed := true, recurses := true, apart := false }
def FnExactLineThatFitsSaid : Prop := fnExactLineThatFitsRow.holds Try.pinned (OpenSpec.ofChange fnExactLineThatFitsSpec)

/-- ITS FALSE NEIGHBOUR: 'it returns false'. Refute it at one input. -/
def fnExactLineThatFitsWrong : ChangeSpec := { name := "fnExactLineThatFits", fn := fun _ => fun
  | [d1, d2, d3] => { results := [.lit (.bool false)], args := [d1, d2, d3] }
  | _ => none }
def FnExactLineThatFitsWrongFalsely : Prop := fnExactLineThatFitsRow.holds Try.pinned (OpenSpec.ofChange fnExactLineThatFitsWrong)

/-- 'laws.FnExactReadVernier': WHATEVER THE INPUT: true; the input reads as it did. -/
def fnExactReadVernierSpec : ChangeSpec := { name := "fnExactReadVernier", fn := fun _ => fun
  | [d1, d2, d3] => { results := [.lit (.bool true)], args := [d1, d2, d3] }
  | _ => none }
def fnExactReadVernierRow : OpenClaim := { program := "ytfkmlgndggnhaaa", sum := "27c8979a69ffa3e03d9ec29c3d7e5da2e133e963641b4c71f91c6e8cff318fd4", func := "loop.example/g01254/laws.FnExactReadVernier", spec := "fnExactReadVernier", unfollowed := true, recurses := true, apart := false }
def FnExactReadVernierSaid : Prop := fnExactReadVernierRow.holds Try.pinned (OpenSpec.ofChange fnExactReadVernierSpec)

/-- ITS FALSE NEIGHBOUR: 'it returns false'. Refute it at one input. -/
def fnExactReadVernierWrong : ChangeSpec := { name := "fnExactReadVernier", fn := fun _ => fun
  | [d1, d2, d3] => { results := [.lit (.bool false)], args := [d1, d2, d3] }
  | _ => none }
def FnExactReadVernierWrongFalsely : Prop := fnExactReadVernierRow.holds Try.pinned (OpenSpec.ofChange fnExactReadVernierWrong)

/-- 'laws.FnExactReadingSpan': WHATEVER THE INPUT: true; the input reads as it did. -/
def fnExactReadingSpanSpec : ChangeSpec := { name := "fnExactReadingSpan", fn := fun _ => fun
  | [d1, d2, d3] => { results := [.lit (.bool true)], args := [d1, d2, d3] }
  | _ => none }
def fnExactReadingSpanRow : OpenClaim := { program := "ytfkmlgndggnhaaa", sum := "27c8979a69ffa3e03d9ec29c3d7e5da2e133e963641b4c71f91c6e8cff318fd4", func := "loop.example/g01254/laws.FnExactReadingSpan", spec := "fnExactReadingSpan", unfollowed := true, recurses := true, apart := false }
def FnExactReadingSpanSaid : Prop := fnExactReadingSpanRow.holds Try.pinned (OpenSpec.ofChange fnExactReadingSpanSpec)

/-- ITS FALSE NEIGHBOUR: 'it returns false'. Refute it at one input. -/
def fnExactReadingSpanWrong : ChangeSpec := { name := "fnExactReadingSpan", fn := fun _ => fun
  | [d1, d2, d3] => { results := [.lit (.bool false)], args := [d1, d2, d3] }
  | _ => none }
def FnExactReadingSpanWrongFalsely : Prop := fnExactReadingSpanRow.holds Try.pinned (OpenSpec.ofChange fnExactReadingSpanWrong)

/- THE SECOND FORM. 'bulk': how many values and letters a reading holds, each counted each time it is reached (what is shared counts as often as it is met; a slice's spare places count too). A statement '..UptoSaid' is the law's where the arguments, and the package variables that the reading takes, are together of bulk at most 1048576: NARROWER than '..Said'. Prove '..Said' where nothing that the law and all that it calls make is longer than what came in: it says more and counts as full. Else prove '..UptoSaid'. A law counts once. -/
mutual
def uptoBulk {H : Type} : DataW H → Nat
  | .lit (.string bytes) => bytes.length + 1
  | .lit _ => 1
  | .nil => 1
  | .ptr d => uptoBulk d + 1
  | .slice elems spare => uptoBulkAll elems + uptoBulkAll spare + 1
  | .agg parts => uptoBulkAll parts + 1
  | .iface _ d => uptoBulk d + 1
  | .map entries => uptoBulkEntries entries + 1
  | .held _ => 1
def uptoBulkAll {H : Type} : List (DataW H) → Nat
  | [] => 0
  | d :: r => uptoBulk d + uptoBulkAll r
def uptoBulkEntries {H : Type} : List (Lit × DataW H) → Nat
  | [] => 0
  | x :: r => uptoBulkEntry x + uptoBulkEntries r
def uptoBulkEntry {H : Type} : Lit × DataW H → Nat
  | (.string bytes, d) => bytes.length + uptoBulk d + 1
  | (_, d) => uptoBulk d + 1
 end
def uptoSmall : (H : Type) → List (DataW H) → Bool := fun _ ds => decide (uptoBulkAll ds ≤ 1048576)
def OpenSpec.upto (s : _root_.Go.ChangeSpec) : _root_.Go.OpenSpec := { _root_.Go.OpenSpec.ofChange s with cond := some uptoSmall }

/-- 'laws.FnExactValidScale', WHERE WHAT IT READS IS OF BULK AT MOST 1048576: true; the input reads as it did. -/
def fnExactValidScaleUptoRow : OpenClaim := { program := "ytfkmlgndggnhaaa", sum := "27c8979a69ffa3e03d9ec29c3d7e5da2e133e963641b4c71f91c6e8cff318fd4", func := "loop.example/g01254/laws.FnExactValidScale", spec := "fnExactValidScale", unfollowed := true, recurses := true, apart := false, narrowed := true }
def FnExactValidScaleUptoSaid : Prop := fnExactValidScaleUptoRow.holds Try.pinned (OpenSpec.upto fnExactValidScaleSpec)

/-- 'laws.FnExactSameScale', WHERE WHAT IT READS IS OF BULK AT MOST 1048576: true; the input reads as it did. -/
def fnExactSameScaleUptoRow : OpenClaim := { program := "ytfkmlgndggnhaaa", sum := "27c8979a69ffa3e03d9ec29c3d7e5da2e133e963641b4c71f91c6e8cff318fd4", func := "loop.example/g01254/laws.FnExactSameScale", spec := "fnExactSameScale", apart := false, narrowed := true }
def FnExactSameScaleUptoSaid : Prop := fnExactSameScaleUptoRow.holds Try.pinned (OpenSpec.upto fnExactSameScaleSpec)

/-- 'laws.FnExactEvenScale', WHERE WHAT IT READS IS OF BULK AT MOST 1048576: true; the input reads as it did. -/
def fnExactEvenScaleUptoRow : OpenClaim := { program := "ytfkmlgndggnhaaa", sum := "27c8979a69ffa3e03d9ec29c3d7e5da2e133e963641b4c71f91c6e8cff318fd4", func := "loop.example/g01254/laws.FnExactEvenScale", spec := "fnExactEvenScale", unfollowed := true, recurses := true, apart := false, narrowed := true }
def FnExactEvenScaleUptoSaid : Prop := fnExactEvenScaleUptoRow.holds Try.pinned (OpenSpec.upto fnExactEvenScaleSpec)

/-- 'laws.FnExactMarkAt', WHERE WHAT IT READS IS OF BULK AT MOST 1048576: true; the input reads as it did. -/
def fnExactMarkAtUptoRow : OpenClaim := { program := "ytfkmlgndggnhaaa", sum := "27c8979a69ffa3e03d9ec29c3d7e5da2e133e963641b4c71f91c6e8cff318fd4", func := "loop.example/g01254/laws.FnExactMarkAt", spec := "fnExactMarkAt", unfollowed := true, recurses := true, apart := false, narrowed := true }
def FnExactMarkAtUptoSaid : Prop := fnExactMarkAtUptoRow.holds Try.pinned (OpenSpec.upto fnExactMarkAtSpec)

/-- 'laws.FnExactWorstError', WHERE WHAT IT READS IS OF BULK AT MOST 1048576: true; the input reads as it did. -/
def fnExactWorstErrorUptoRow : OpenClaim := { program := "ytfkmlgndggnhaaa", sum := "27c8979a69ffa3e03d9ec29c3d7e5da2e133e963641b4c71f91c6e8cff318fd4", func := "loop.example/g01254/laws.FnExactWorstError", spec := "fnExactWorstError", unfollowed := true, recurses := true, apart := false, narrowed := true }
def FnExactWorstErrorUptoSaid : Prop := fnExactWorstErrorUptoRow.holds Try.pinned (OpenSpec.upto fnExactWorstErrorSpec)

/-- 'laws.FnExactNearestMark', WHERE WHAT IT READS IS OF BULK AT MOST 1048576: true; the input reads as it did. -/
def fnExactNearestMarkUptoRow : OpenClaim := { program := "ytfkmlgndggnhaaa", sum := "27c8979a69ffa3e03d9ec29c3d7e5da2e133e963641b4c71f91c6e8cff318fd4", func := "loop.example/g01254/laws.FnExactNearestMark", spec := "fnExactNearestMark", unfollowed := true, recurses := true, apart := false, narrowed := true }
def FnExactNearestMarkUptoSaid : Prop := fnExactNearestMarkUptoRow.holds Try.pinned (OpenSpec.upto fnExactNearestMarkSpec)

/-- 'laws.FnExactLeastCount', WHERE WHAT IT READS IS OF BULK AT MOST 1048576: true; the input reads as it did. -/
def fnExactLeastCountUptoRow : OpenClaim := { program := "ytfkmlgndggnhaaa", sum := "27c8979a69ffa3e03d9ec29c3d7e5da2e133e963641b4c71f91c6e8cff318fd4", func := "loop.example/g01254/laws.FnExactLeastCount", spec := "fnExactLeastCount", unfollowed := true, recurses := true, apart := false, narrowed := true }
def FnExactLeastCountUptoSaid : Prop := fnExactLeastCountUptoRow.holds Try.pinned (OpenSpec.upto fnExactLeastCountSpec)

/-- 'laws.FnExactLineAt', WHERE WHAT IT READS IS OF BULK AT MOST 1048576: true; the input reads as it did. -/
def fnExactLineAtUptoRow : OpenClaim := { program := "ytfkmlgndggnhaaa", sum := "27c8979a69ffa3e03d9ec29c3d7e5da2e133e963641b4c71f91c6e8cff318fd4", func := "loop.example/g01254/laws.FnExactLineAt", spec := "fnExactLineAt", unfollowed := true, recurses := true, apart := false, narrowed := true }
def FnExactLineAtUptoSaid : Prop := fnExactLineAtUptoRow.holds Try.pinned (OpenSpec.upto fnExactLineAtSpec)

/-- 'laws.FnExactMisfitOf', WHERE WHAT IT READS IS OF BULK AT MOST 1048576: true; the input reads as it did. -/
def fnExactMisfitOfUptoRow : OpenClaim := { program := "ytfkmlgndggnhaaa", sum := "27c8979a69ffa3e03d9ec29c3d7e5da2e133e963641b4c71f91c6e8cff318fd4", func := "loop.example/g01254/laws.FnExactMisfitOf", spec := "fnExactMisfitOf", unfollowed := true, recurses := true, apart := false, narrowed := true }
def FnExactMisfitOfUptoSaid : Prop := fnExactMisfitOfUptoRow.holds Try.pinned (OpenSpec.upto fnExactMisfitOfSpec)

/-- 'laws.FnExactLineThatFits', WHERE WHAT IT READS IS OF BULK AT MOST 1048576: true; the input reads as it did. -/
def fnExactLineThatFitsUptoRow : OpenClaim := { program := "ytfkmlgndggnhaaa", sum := "27c8979a69ffa3e03d9ec29c3d7e5da2e133e963641b4c71f91c6e8cff318fd4", func := "loop.example/g01254/laws.FnExactLineThatFits", spec := "fnExactLineThatFits", unfollowed := true, recurses := true, apart := false, narrowed := true }
def FnExactLineThatFitsUptoSaid : Prop := fnExactLineThatFitsUptoRow.holds Try.pinned (OpenSpec.upto fnExactLineThatFitsSpec)

/-- 'laws.FnExactReadVernier', WHERE WHAT IT READS IS OF BULK AT MOST 1048576: true; the input reads as it did. -/
def fnExactReadVernierUptoRow : OpenClaim := { program := "ytfkmlgndggnhaaa", sum := "27c8979a69ffa3e03d9ec29c3d7e5da2e133e963641b4c71f91c6e8cff318fd4", func := "loop.example/g01254/laws.FnExactReadVernier", spec := "fnExactReadVernier", unfollowed := true, recurses := true, apart := false, narrowed := true }
def FnExactReadVernierUptoSaid : Prop := fnExactReadVernierUptoRow.holds Try.pinned (OpenSpec.upto fnExactReadVernierSpec)

/-- 'laws.FnExactReadingSpan', WHERE WHAT IT READS IS OF BULK AT MOST 1048576: true; the input reads as it did. -/
def fnExactReadingSpanUptoRow : OpenClaim := { program := "ytfkmlgndggnhaaa", sum := "27c8979a69ffa3e03d9ec29c3d7e5da2e133e963641b4c71f91c6e8cff318fd4", func := "loop.example/g01254/laws.FnExactReadingSpan", spec := "fnExactReadingSpan", unfollowed := true, recurses := true, apart := false, narrowed := true }
def FnExactReadingSpanUptoSaid : Prop := fnExactReadingSpanUptoRow.holds Try.pinned (OpenSpec.upto fnExactReadingSpanSpec)

end Rows
end Go.Proofs.Ytfkmlgndggnhaaa
