/-
  No cell of these rows narrows 'for every input' (looked for: loops, veiled, ifaces, maps, wideKeys, modest, calm, conditions, laid).
  DERIVED. THE GIVEN ROWS OF THIS SEAT. 5 by the template 'for every input the law returns true; each argument reads behind the call as it read before'; 0 by the template 'total and deterministic' (their statements: YtlclcpmlkfebhaaTotals.lean).
  GIVEN WITH THE SEED: the statements are not yours to turn. If you find one false, say at which input.
  Laid BY PROGRAM, IN A SANDBOX (cutbox-rows.mjs): the forced cells as the released guide's own fill.sh prints them over the translation 6f5169dab37e3c6f… (all of the seat's roots in one cut). By AI agents, Wed Nov 11 2026. No macro, syntax, notation, axiom, sorry.
-/
import Derived.Test.YtlclcpmlkfebhaaChecked
import GoSem.Claim
import GoSem.ClaimJoined
import GoSem.ClaimMapViews
import Derived.JoinedTies
import Derived.KernelRfl
namespace Go.Proofs.Ytlclcpmlkfebhaa
/- THE CELL 'sum', in the pinned program and in every row, IS THE sha256 OF THE DUMP (.gsa) THAT YtlclcpmlkfebhaaProg.lean LOADS. Nothing in Lean hashes anything: it is a label: what it is worth is what the hold of that sum in a sandbox is worth. -/
noncomputable def Try.pinned : Pinned := { name := "ytlclcpmlkfebhaa", sum := "6f5169dab37e3c6fffa393239ce671f4f304a3bc7f107ad9d65b6f5352fee51e", checked := Try.checked }
namespace Rows
def none {H : Type} : Left H := { results := [], args := [] }

/-- 'laws.FnEveryClosing': WHATEVER THE INPUT: true; the input reads as it did. -/
def fnEveryClosingSpec : ChangeSpec := { name := "fnEveryClosing", fn := fun _ => fun
  | [d] => { results := [.lit (.bool true)], args := [d] }
  | _ => none }
def fnEveryClosingRow : OpenClaim := { program := "ytlclcpmlkfebhaa", sum := "6f5169dab37e3c6fffa393239ce671f4f304a3bc7f107ad9d65b6f5352fee51e", func := "loop.example/g01254/laws.FnEveryClosing", spec := "fnEveryClosing", unfollowed := true, recurses := true, plainKeys := false, apart := false }
def FnEveryClosingSaid : Prop := fnEveryClosingRow.holds Try.pinned (OpenSpec.ofChange fnEveryClosingSpec)

/-- ITS FALSE NEIGHBOUR: 'it returns false'. Refute it at one input. -/
def fnEveryClosingWrong : ChangeSpec := { name := "fnEveryClosing", fn := fun _ => fun
  | [d] => { results := [.lit (.bool false)], args := [d] }
  | _ => none }
def FnEveryClosingWrongFalsely : Prop := fnEveryClosingRow.holds Try.pinned (OpenSpec.ofChange fnEveryClosingWrong)

/-- 'laws.FnExactNearestTo': WHATEVER THE INPUT: true; the input reads as it did. -/
def fnExactNearestToSpec : ChangeSpec := { name := "fnExactNearestTo", fn := fun _ => fun
  | [d1, d2] => { results := [.lit (.bool true)], args := [d1, d2] }
  | _ => none }
def fnExactNearestToRow : OpenClaim := { program := "ytlclcpmlkfebhaa", sum := "6f5169dab37e3c6fffa393239ce671f4f304a3bc7f107ad9d65b6f5352fee51e", func := "loop.example/g01254/laws.FnExactNearestTo", spec := "fnExactNearestTo", unfollowed := true, recurses := true, plainKeys := false, apart := false }
def FnExactNearestToSaid : Prop := fnExactNearestToRow.holds Try.pinned (OpenSpec.ofChange fnExactNearestToSpec)

/-- ITS FALSE NEIGHBOUR: 'it returns false'. Refute it at one input. -/
def fnExactNearestToWrong : ChangeSpec := { name := "fnExactNearestTo", fn := fun _ => fun
  | [d1, d2] => { results := [.lit (.bool false)], args := [d1, d2] }
  | _ => none }
def FnExactNearestToWrongFalsely : Prop := fnExactNearestToRow.holds Try.pinned (OpenSpec.ofChange fnExactNearestToWrong)

/-- 'laws.FnExactMiddleOf': WHATEVER THE INPUT: true; the input reads as it did. -/
def fnExactMiddleOfSpec : ChangeSpec := { name := "fnExactMiddleOf", fn := fun _ => fun
  | [d] => { results := [.lit (.bool true)], args := [d] }
  | _ => none }
def fnExactMiddleOfRow : OpenClaim := { program := "ytlclcpmlkfebhaa", sum := "6f5169dab37e3c6fffa393239ce671f4f304a3bc7f107ad9d65b6f5352fee51e", func := "loop.example/g01254/laws.FnExactMiddleOf", spec := "fnExactMiddleOf", unfollowed := true, recurses := true, plainKeys := false, apart := false }
def FnExactMiddleOfSaid : Prop := fnExactMiddleOfRow.holds Try.pinned (OpenSpec.ofChange fnExactMiddleOfSpec)

/-- ITS FALSE NEIGHBOUR: 'it returns false'. Refute it at one input. -/
def fnExactMiddleOfWrong : ChangeSpec := { name := "fnExactMiddleOf", fn := fun _ => fun
  | [d] => { results := [.lit (.bool false)], args := [d] }
  | _ => none }
def FnExactMiddleOfWrongFalsely : Prop := fnExactMiddleOfRow.holds Try.pinned (OpenSpec.ofChange fnExactMiddleOfWrong)

/-- 'laws.FnExactMulSpans': WHATEVER THE INPUT: true; the input reads as it did. -/
def fnExactMulSpansSpec : ChangeSpec := { name := "fnExactMulSpans", fn := fun _ => fun
  | [d1, d2] => { results := [.lit (.bool true)], args := [d1, d2] }
  | _ => none }
def fnExactMulSpansRow : OpenClaim := { program := "ytlclcpmlkfebhaa", sum := "6f5169dab37e3c6fffa393239ce671f4f304a3bc7f107ad9d65b6f5352fee51e", func := "loop.example/g01254/laws.FnExactMulSpans", spec := "fnExactMulSpans", unfollowed := true, recurses := true, plainKeys := false, apart := false }
def FnExactMulSpansSaid : Prop := fnExactMulSpansRow.holds Try.pinned (OpenSpec.ofChange fnExactMulSpansSpec)

/-- ITS FALSE NEIGHBOUR: 'it returns false'. Refute it at one input. -/
def fnExactMulSpansWrong : ChangeSpec := { name := "fnExactMulSpans", fn := fun _ => fun
  | [d1, d2] => { results := [.lit (.bool false)], args := [d1, d2] }
  | _ => none }
def FnExactMulSpansWrongFalsely : Prop := fnExactMulSpansRow.holds Try.pinned (OpenSpec.ofChange fnExactMulSpansWrong)

/-- 'laws.FnExactHullOf': WHATEVER THE INPUT: true; the input reads as it did. -/
def fnExactHullOfSpec : ChangeSpec := { name := "fnExactHullOf", fn := fun _ => fun
  | [d] => { results := [.lit (.bool true)], args := [d] }
  | _ => none }
def fnExactHullOfRow : OpenClaim := { program := "ytlclcpmlkfebhaa", sum := "6f5169dab37e3c6fffa393239ce671f4f304a3bc7f107ad9d65b6f5352fee51e", func := "loop.example/g01254/laws.FnExactHullOf", spec := "fnExactHullOf", unfollowed := true, recurses := true, plainKeys := false, apart := false }
def FnExactHullOfSaid : Prop := fnExactHullOfRow.holds Try.pinned (OpenSpec.ofChange fnExactHullOfSpec)

/-- ITS FALSE NEIGHBOUR: 'it returns false'. Refute it at one input. -/
def fnExactHullOfWrong : ChangeSpec := { name := "fnExactHullOf", fn := fun _ => fun
  | [d] => { results := [.lit (.bool false)], args := [d] }
  | _ => none }
def FnExactHullOfWrongFalsely : Prop := fnExactHullOfRow.holds Try.pinned (OpenSpec.ofChange fnExactHullOfWrong)

/- THE SECOND FORM. 'bulk': how many values and letters a reading holds, each counted each time it is reached (what is shared counts as often as it is met; a slice's spare places count too). A statement '..UptoSaid' is the law's where the arguments, and the package variables that the reading takes, are together of bulk at most 1048576: NARROWER than '..Said'. Prove '..Said' where nothing that the law and all that it calls make is longer than what came in: it says more and counts as full. Else prove '..UptoSaid'. A law counts once. -/
mutual
def uptoBulk {H : Type} : DataW H → Nat
  | .lit (.string bytes) => bytes.length + 1
  | .lit _ => 1
  | .nil => 1
  | .ptr d => uptoBulk d + 1
  | .slice elems spare => uptoBulkAll elems + uptoBulkAll spare + 1
  | .agg parts => uptoBulkAll parts + 1
  | .iface _ d => uptoBulk d + 1
  | .map entries => uptoBulkEntries entries + 1
  | .held _ => 1
def uptoBulkAll {H : Type} : List (DataW H) → Nat
  | [] => 0
  | d :: r => uptoBulk d + uptoBulkAll r
def uptoBulkEntries {H : Type} : List (Lit × DataW H) → Nat
  | [] => 0
  | x :: r => uptoBulkEntry x + uptoBulkEntries r
def uptoBulkEntry {H : Type} : Lit × DataW H → Nat
  | (.string bytes, d) => bytes.length + uptoBulk d + 1
  | (_, d) => uptoBulk d + 1
 end
def uptoSmall : (H : Type) → List (DataW H) → Bool := fun _ ds => decide (uptoBulkAll ds ≤ 1048576)
def OpenSpec.upto (s : _root_.Go.ChangeSpec) : _root_.Go.OpenSpec := { _root_.Go.OpenSpec.ofChange s with cond := some uptoSmall }

/-- 'laws.FnEveryClosing', WHERE WHAT IT READS IS OF BULK AT MOST 1048576: true; the input reads as it did. -/
def fnEveryClosingUptoRow : OpenClaim := { program := "ytlclcpmlkfebhaa", sum := "6f5169dab37e3c6fffa393239ce671f4f304a3bc7f107ad9d65b6f5352fee51e", func := "loop.example/g01254/laws.FnEveryClosing", spec := "fnEveryClosing", unfollowed := true, recurses := true, plainKeys := false, apart := false, narrowed := true }
def FnEveryClosingUptoSaid : Prop := fnEveryClosingUptoRow.holds Try.pinned (OpenSpec.upto fnEveryClosingSpec)

/-- 'laws.FnExactNearestTo', WHERE WHAT IT READS IS OF BULK AT MOST 1048576: true; the input reads as it did. -/
def fnExactNearestToUptoRow : OpenClaim := { program := "ytlclcpmlkfebhaa", sum := "6f5169dab37e3c6fffa393239ce671f4f304a3bc7f107ad9d65b6f5352fee51e", func := "loop.example/g01254/laws.FnExactNearestTo", spec := "fnExactNearestTo", unfollowed := true, recurses := true, plainKeys := false, apart := false, narrowed := true }
def FnExactNearestToUptoSaid : Prop := fnExactNearestToUptoRow.holds Try.pinned (OpenSpec.upto fnExactNearestToSpec)

/-- 'laws.FnExactMiddleOf', WHERE WHAT IT READS IS OF BULK AT MOST 1048576: true; the input reads as it did. -/
def fnExactMiddleOfUptoRow : OpenClaim := { program := "ytlclcpmlkfebhaa", sum := "6f5169dab37e3c6fffa393239ce671f4f304a3bc7f107ad9d65b6f5352fee51e", func := "loop.example/g01254/laws.FnExactMiddleOf", spec := "fnExactMiddleOf", unfollowed := true, recurses := true, plainKeys := false, apart := false, narrowed := true }
def FnExactMiddleOfUptoSaid : Prop := fnExactMiddleOfUptoRow.holds Try.pinned (OpenSpec.upto fnExactMiddleOfSpec)

/-- 'laws.FnExactMulSpans', WHERE WHAT IT READS IS OF BULK AT MOST 1048576: true; the input reads as it did. -/
def fnExactMulSpansUptoRow : OpenClaim := { program := "ytlclcpmlkfebhaa", sum := "6f5169dab37e3c6fffa393239ce671f4f304a3bc7f107ad9d65b6f5352fee51e", func := "loop.example/g01254/laws.FnExactMulSpans", spec := "fnExactMulSpans", unfollowed := true, recurses := true, plainKeys := false, apart := false, narrowed := true }
def FnExactMulSpansUptoSaid : Prop := fnExactMulSpansUptoRow.holds Try.pinned (OpenSpec.upto fnExactMulSpansSpec)

/-- 'laws.FnExactHullOf', WHERE WHAT IT READS IS OF BULK AT MOST 1048576: true; the input reads as it did. -/
def fnExactHullOfUptoRow : OpenClaim := { program := "ytlclcpmlkfebhaa", sum := "6f5169dab37e3c6fffa393239ce671f4f304a3bc7f107ad9d65b6f5352fee51e", func := "loop.example/g01254/laws.FnExactHullOf", spec := "fnExactHullOf", unfollowed := true, recurses := true, plainKeys := false, apart := false, narrowed := true }
def FnExactHullOfUptoSaid : Prop := fnExactHullOfUptoRow.holds Try.pinned (OpenSpec.upto fnExactHullOfSpec)

end Rows
end Go.Proofs.Ytlclcpmlkfebhaa
