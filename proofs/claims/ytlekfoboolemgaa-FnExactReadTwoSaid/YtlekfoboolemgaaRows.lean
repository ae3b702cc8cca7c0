/-
  No cell of these rows narrows 'for every input' (looked for: loops, veiled, ifaces, maps, wideKeys, modest, calm, conditions, laid).
  DERIVED. THE GIVEN ROWS OF THIS SEAT. 12 by the template 'for every input the law returns true; each argument reads behind the call as it read before'; 0 by the template 'total and deterministic' (their statements: YtlekfoboolemgaaTotals.lean).
  GIVEN WITH THE SEED: the statements are not yours to turn. If you find one false, say at which input.
  Laid BY PROGRAM, IN A SANDBOX (cutbox-rows.mjs): the forced cells as the released guide's own fill.sh prints them over the translation b334a366a3d8f938… (all of the seat's roots in one cut). By AI agents, Wed Nov 11 2026. No macro, syntax, notation, axiom, sorry.
-/
import Derived.Test.YtlekfoboolemgaaChecked
import GoSem.Claim
import GoSem.ClaimJoined
import GoSem.ClaimMapViews
import Derived.JoinedTies
import Derived.KernelRfl
namespace Go.Proofs.Ytlekfoboolemgaa
/- THE CELL 'sum', in the pinned program and in every row, IS THE sha256 OF THE DUMP (.gsa) THAT YtlekfoboolemgaaProg.lean LOADS. Nothing in Lean hashes anything: it is a label: what it is worth is what the hold of that sum in a sandbox is worth. -/
noncomputable def Try.pinned : Pinned := { name := "ytlekfoboolemgaa", sum := "b334a366a3d8f938261f407c751f39cc7c02fe94e20eb8212bd0732c98029d8f", checked := Try.checked }
namespace Rows
def none {H : Type} : Left H := { results := [], args := [] }

/-- 'laws.FnExactWrapAngle': WHATEVER THE INPUT: true; the input reads as it did. -/
def fnExactWrapAngleSpec : ChangeSpec := { name := "fnExactWrapAngle", fn := fun _ => fun
  | [d] => { results := [.lit (.bool true)], args := [d] }
  | _ => none }
def fnExactWrapAngleRow : OpenClaim := { program := "ytlekfoboolemgaa", sum := "b334a366a3d8f938261f407c751f39cc7c02fe94e20eb8212bd0732c98029d8f", func := "loop.example/g01254/laws.FnExactWrapAngle", spec := "fnExactWrapAngle", plainKeys := false, apart := false }
def FnExactWrapAngleSaid : Prop := fnExactWrapAngleRow.holds Try.pinned (OpenSpec.ofChange fnExactWrapAngleSpec)

/-- ITS FALSE NEIGHBOUR: 'it returns false'. Refute it at one input. -/
def fnExactWrapAngleWrong : ChangeSpec := { name := "fnExactWrapAngle", fn := fun _ => fun
  | [d] => { results := [.lit (.bool false)], args := [d] }
  | _ => none }
def FnExactWrapAngleWrongFalsely : Prop := fnExactWrapAngleRow.holds Try.pinned (OpenSpec.ofChange fnExactWrapAngleWrong)

/-- 'laws.FnExactTurnFrom': WHATEVER THE INPUT: true; the input reads as it did. -/
def fnExactTurnFromSpec : ChangeSpec := { name := "fnExactTurnFrom", fn := fun _ => fun
  | [d1, d2] => { results := [.lit (.bool true)], args := [d1, d2] }
  | _ => none }
def fnExactTurnFromRow : OpenClaim := { program := "ytlekfoboolemgaa", sum := "b334a366a3d8f938261f407c751f39cc7c02fe94e20eb8212bd0732c98029d8f", func := "loop.example/g01254/laws.FnExactTurnFrom", spec := "fnExactTurnFrom", plainKeys := false, apart := false }
def FnExactTurnFromSaid : Prop := fnExactTurnFromRow.holds Try.pinned (OpenSpec.ofChange fnExactTurnFromSpec)

/-- ITS FALSE NEIGHBOUR: 'it returns false'. Refute it at one input. -/
def fnExactTurnFromWrong : ChangeSpec := { name := "fnExactTurnFrom", fn := fun _ => fun
  | [d1, d2] => { results := [.lit (.bool false)], args := [d1, d2] }
  | _ => none }
def FnExactTurnFromWrongFalsely : Prop := fnExactTurnFromRow.holds Try.pinned (OpenSpec.ofChange fnExactTurnFromWrong)

/-- 'laws.FnExactValidDisk': WHATEVER THE INPUT: true; the input reads as it did. -/
def fnExactValidDiskSpec : ChangeSpec := { name := "fnExactValidDisk", fn := fun _ => fun
  | [d] => { results := [.lit (.bool true)], args := [d] }
  | _ => none }
def fnExactValidDiskRow : OpenClaim := { program := "ytlekfoboolemgaa", sum := "b334a366a3d8f938261f407c751f39cc7c02fe94e20eb8212bd0732c98029d8f", func := "loop.example/g01254/laws.FnExactValidDisk", spec := "fnExactValidDisk", unfollowed := true, recurses := true, plainKeys := false, apart := false }
def FnExactValidDiskSaid : Prop := fnExactValidDiskRow.holds Try.pinned (OpenSpec.ofChange fnExactValidDiskSpec)

/-- ITS FALSE NEIGHBOUR: 'it returns false'. Refute it at one input. -/
def fnExactValidDiskWrong : ChangeSpec := { name := "fnExactValidDisk", fn := fun _ => fun
  | [d] => { results := [.lit (.bool false)], args := [d] }
  | _ => none }
def FnExactValidDiskWrongFalsely : Prop := fnExactValidDiskRow.holds Try.pinned (OpenSpec.ofChange fnExactValidDiskWrong)

/-- 'laws.FnExactSameDisk': WHATEVER THE INPUT: true; the input reads as it did. -/
def fnExactSameDiskSpec : ChangeSpec := { name := "fnExactSameDisk", fn := fun _ => fun
  | [d1, d2] => { results := [.lit (.bool true)], args := [d1, d2] }
  | _ => none }
def fnExactSameDiskRow : OpenClaim := { program := "ytlekfoboolemgaa", sum := "b334a366a3d8f938261f407c751f39cc7c02fe94e20eb8212bd0732c98029d8f", func := "loop.example/g01254/laws.FnExactSameDisk", spec := "fnExactSameDisk", plainKeys := false, apart := false }
def FnExactSameDiskSaid : Prop := fnExactSameDiskRow.holds Try.pinned (OpenSpec.ofChange fnExactSameDiskSpec)

/-- ITS FALSE NEIGHBOUR: 'it returns false'. Refute it at one input. -/
def fnExactSameDiskWrong : ChangeSpec := { name := "fnExactSameDisk", fn := fun _ => fun
  | [d1, d2] => { results := [.lit (.bool false)], args := [d1, d2] }
  | _ => none }
def FnExactSameDiskWrongFalsely : Prop := fnExactSameDiskRow.holds Try.pinned (OpenSpec.ofChange fnExactSameDiskWrong)

/-- 'laws.FnExactFaultAt': WHATEVER THE INPUT: true; the input reads as it did. -/
def fnExactFaultAtSpec : ChangeSpec := { name := "fnExactFaultAt", fn := fun _ => fun
  | [d1, d2] => { results := [.lit (.bool true)], args := [d1, d2] }
  | _ => none }
def fnExactFaultAtRow : OpenClaim := { program := "ytlekfoboolemgaa", sum := "b334a366a3d8f938261f407c751f39cc7c02fe94e20eb8212bd0732c98029d8f", func := "loop.example/g01254/laws.FnExactFaultAt", spec := "fnExactFaultAt", unfollowed := true, recurses := true, plainKeys := false, apart := false }
def FnExactFaultAtSaid : Prop := fnExactFaultAtRow.holds Try.pinned (OpenSpec.ofChange fnExactFaultAtSpec)

/-- ITS FALSE NEIGHBOUR: 'it returns false'. Refute it at one input. -/
def fnExactFaultAtWrong : ChangeSpec := { name := "fnExactFaultAt", fn := fun _ => fun
  | [d1, d2] => { results := [.lit (.bool false)], args := [d1, d2] }
  | _ => none }
def FnExactFaultAtWrongFalsely : Prop := fnExactFaultAtRow.holds Try.pinned (OpenSpec.ofChange fnExactFaultAtWrong)

/-- 'laws.FnExactSwingAt': WHATEVER THE INPUT: true; the input reads as it did. -/
def fnExactSwingAtSpec : ChangeSpec := { name := "fnExactSwingAt", fn := fun _ => fun
  | [d1, d2] => { results := [.lit (.bool true)], args := [d1, d2] }
  | _ => none }
def fnExactSwingAtRow : OpenClaim := { program := "ytlekfoboolemgaa", sum := "b334a366a3d8f938261f407c751f39cc7c02fe94e20eb8212bd0732c98029d8f", func := "loop.example/g01254/laws.FnExactSwingAt", spec := "fnExactSwingAt", unfollowed := true, recurses := true, plainKeys := false, apart := false }
def FnExactSwingAtSaid : Prop := fnExactSwingAtRow.holds Try.pinned (OpenSpec.ofChange fnExactSwingAtSpec)

/-- ITS FALSE NEIGHBOUR: 'it returns false'. Refute it at one input. -/
def fnExactSwingAtWrong : ChangeSpec := { name := "fnExactSwingAt", fn := fun _ => fun
  | [d1, d2] => { results := [.lit (.bool false)], args := [d1, d2] }
  | _ => none }
def FnExactSwingAtWrongFalsely : Prop := fnExactSwingAtRow.holds Try.pinned (OpenSpec.ofChange fnExactSwingAtWrong)

/-- 'laws.FnExactReadHead': WHATEVER THE INPUT: true; the input reads as it did. -/
def fnExactReadHeadSpec : ChangeSpec := { name := "fnExactReadHead", fn := fun _ => fun
  | [d1, d2, d3] => { results := [.lit (.bool true)], args := [d1, d2, d3] }
  | _ => none }
def fnExactReadHeadRow : OpenClaim := { program := "ytlekfoboolemgaa", sum := "b334a366a3d8f938261f407c751f39cc7c02fe94e20eb8212bd0732c98029d8f", func := "loop.example/g01254/laws.FnExactReadHead", spec := "fnExactReadHead", unfollowed := true, recurses := true, plainKeys := false, apart := false }
def FnExactReadHeadSaid : Prop := fnExactReadHeadRow.holds Try.pinned (OpenSpec.ofChange fnExactReadHeadSpec)

/-- ITS FALSE NEIGHBOUR: 'it returns false'. Refute it at one input. -/
def fnExactReadHeadWrong : ChangeSpec := { name := "fnExactReadHead", fn := fun _ => fun
  | [d1, d2, d3] => { results := [.lit (.bool false)], args := [d1, d2, d3] }
  | _ => none }
def FnExactReadHeadWrongFalsely : Prop := fnExactReadHeadRow.holds Try.pinned (OpenSpec.ofChange fnExactReadHeadWrong)

/-- 'laws.FnExactReadTwo': WHATEVER THE INPUT: true; the input reads as it did. -/
def fnExactReadTwoSpec : ChangeSpec := { name := "fnExactReadTwo", fn := fun _ => fun
  | [d1, d2, d3] => { results := [.lit (.bool true)], args := [d1, d2, d3] }
  | _ => none }
def fnExactReadTwoRow : OpenClaim := { program := "ytlekfoboolemgaa", sum := "b334a366a3d8f938261f407c751f39cc7c02fe94e20eb8212bd0732c98029d8f", func := "loop.example/g01254/laws.FnExactReadTwo", spec := "fnExactReadTwo", unfollowed := true, recurses := true, plainKeys := false, apart := false }
def FnExactReadTwoSaid : Prop := fnExactReadTwoRow.holds Try.pinned (OpenSpec.ofChange fnExactReadTwoSpec)

/-- ITS FALSE NEIGHBOUR: 'it returns false'. Refute it at one input. -/
def fnExactReadTwoWrong : ChangeSpec := { name := "fnExactReadTwo", fn := fun _ => fun
  | [d1, d2, d3] => { results := [.lit (.bool false)], args := [d1, d2, d3] }
  | _ => none }
def FnExactReadTwoWrongFalsely : Prop := fnExactReadTwoRow.holds Try.pinned (OpenSpec.ofChange fnExactReadTwoWrong)

/-- 'laws.FnExactMeanOfTwo': WHATEVER THE INPUT: true; the input reads as it did. -/
def fnExactMeanOfTwoSpec : ChangeSpec := { name := "fnExactMeanOfTwo", fn := fun _ => fun
  | [d1, d2] => { results := [.lit (.bool true)], args := [d1, d2] }
  | _ => none }
def fnExactMeanOfTwoRow : OpenClaim := { program := "ytlekfoboolemgaa", sum := "b334a366a3d8f938261f407c751f39cc7c02fe94e20eb8212bd0732c98029d8f", func := "loop.example/g01254/laws.FnExactMeanOfTwo", spec := "fnExactMeanOfTwo", unfollowed := true, recurses := true, plainKeys := false, apart := false }
def FnExactMeanOfTwoSaid : Prop := fnExactMeanOfTwoRow.holds Try.pinned (OpenSpec.ofChange fnExactMeanOfTwoSpec)

/-- ITS FALSE NEIGHBOUR: 'it returns false'. Refute it at one input. -/
def fnExactMeanOfTwoWrong : ChangeSpec := { name := "fnExactMeanOfTwo", fn := fun _ => fun
  | [d1, d2] => { results := [.lit (.bool false)], args := [d1, d2] }
  | _ => none }
def FnExactMeanOfTwoWrongFalsely : Prop := fnExactMeanOfTwoRow.holds Try.pinned (OpenSpec.ofChange fnExactMeanOfTwoWrong)

/-- 'laws.FnExactClosingOf': WHATEVER THE INPUT: true; the input reads as it did. -/
def fnExactClosingOfSpec : ChangeSpec := { name := "fnExactClosingOf", fn := fun _ => fun
  | [d] => { results := [.lit (.bool true)], args := [d] }
  | _ => none }
def fnExactClosingOfRow : OpenClaim := { program := "ytlekfoboolemgaa", sum := "b334a366a3d8f938261f407c751f39cc7c02fe94e20eb8212bd0732c98029d8f", func := "loop.example/g01254/laws.FnExactClosingOf", spec := "fnExactClosingOf", unfollowed := true, recurses := true, plainKeys := false, apart := false }
def FnExactClosingOfSaid : Prop := fnExactClosingOfRow.holds Try.pinned (OpenSpec.ofChange fnExactClosingOfSpec)

/-- ITS FALSE NEIGHBOUR: 'it returns false'. Refute it at one input. -/
def fnExactClosingOfWrong : ChangeSpec := { name := "fnExactClosingOf", fn := fun _ => fun
  | [d] => { results := [.lit (.bool false)], args := [d] }
  | _ => none }
def FnExactClosingOfWrongFalsely : Prop := fnExactClosingOfRow.holds Try.pinned (OpenSpec.ofChange fnExactClosingOfWrong)

/-- 'laws.FnExactShareClosing': WHATEVER THE INPUT: true; the input reads as it did. -/
def fnExactShareClosingSpec : ChangeSpec := { name := "fnExactShareClosing", fn := fun _ => fun
  | [d] => { results := [.lit (.bool true)], args := [d] }
  | _ => none }
def fnExactShareClosingRow : OpenClaim := { program := "ytlekfoboolemgaa", sum := "b334a366a3d8f938261f407c751f39cc7c02fe94e20eb8212bd0732c98029d8f", func := "loop.example/g01254/laws.FnExactShareClosing", spec := "fnExactShareClosing", unfollowed := true, recurses := true, plainKeys := false, apart := false }
def FnExactShareClosingSaid : Prop := fnExactShareClosingRow.holds Try.pinned (OpenSpec.ofChange fnExactShareClosingSpec)

/-- ITS FALSE NEIGHBOUR: 'it returns false'. Refute it at one input. -/
def fnExactShareClosingWrong : ChangeSpec := { name := "fnExactShareClosing", fn := fun _ => fun
  | [d] => { results := [.lit (.bool false)], args := [d] }
  | _ => none }
def FnExactShareClosingWrongFalsely : Prop := fnExactShareClosingRow.holds Try.pinned (OpenSpec.ofChange fnExactShareClosingWrong)

/-- 'laws.FnExactFaultsFrom': WHATEVER THE INPUT: true; the input reads as it did. -/
def fnExactFaultsFromSpec : ChangeSpec := { name := "fnExactFaultsFrom", fn := fun _ => fun
  | [d] => { results := [.lit (.bool true)], args := [d] }
  | _ => none }
def fnExactFaultsFromRow : OpenClaim := { program := "ytlekfoboolemgaa", sum := "b334a366a3d8f938261f407c751f39cc7c02fe94e20eb8212bd0732c98029d8f", func := "loop.example/g01254/laws.FnExactFaultsFrom", spec := "fnExactFaultsFrom", unfollowed := true, recurses := true, plainKeys := false, apart := false }
def FnExactFaultsFromSaid : Prop := fnExactFaultsFromRow.holds Try.pinned (OpenSpec.ofChange fnExactFaultsFromSpec)

/-- ITS FALSE NEIGHBOUR: 'it returns false'. Refute it at one input. -/
def fnExactFaultsFromWrong : ChangeSpec := { name := "fnExactFaultsFrom", fn := fun _ => fun
  | [d] => { results := [.lit (.bool false)], args := [d] }
  | _ => none }
def FnExactFaultsFromWrongFalsely : Prop := fnExactFaultsFromRow.holds Try.pinned (OpenSpec.ofChange fnExactFaultsFromWrong)

/- THE SECOND FORM. 'bulk': how many values and letters a reading holds, each counted each time it is reached (what is shared counts as often as it is met; a slice's spare places count too). A statement '..UptoSaid' is the law's where the arguments, and the package variables that the reading takes, are together of bulk at most 1048576: NARROWER than '..Said'. Prove '..Said' where nothing that the law and all that it calls make is longer than what came in: it says more and counts as full. Else prove '..UptoSaid'. A law counts once. -/
mutual
def uptoBulk {H : Type} : DataW H → Nat
  | .lit (.string bytes) => bytes.length + 1
  | .lit _ => 1
  | .nil => 1
  | .ptr d => uptoBulk d + 1
  | .slice elems spare => uptoBulkAll elems + uptoBulkAll spare + 1
  | .agg parts => uptoBulkAll parts + 1
  | .iface _ d => uptoBulk d + 1
  | .map entries => uptoBulkEntries entries + 1
  | .held _ => 1
def uptoBulkAll {H : Type} : List (DataW H) → Nat
  | [] => 0
  | d :: r => uptoBulk d + uptoBulkAll r
def uptoBulkEntries {H : Type} : List (Lit × DataW H) → Nat
  | [] => 0
  | x :: r => uptoBulkEntry x + uptoBulkEntries r
def uptoBulkEntry {H : Type} : Lit × DataW H → Nat
  | (.string bytes, d) => bytes.length + uptoBulk d + 1
  | (_, d) => uptoBulk d + 1
 end
def uptoSmall : (H : Type) → List (DataW H) → Bool := fun _ ds => decide (uptoBulkAll ds ≤ 1048576)
def OpenSpec.upto (s : _root_.Go.ChangeSpec) : _root_.Go.OpenSpec := { _root_.Go.OpenSpec.ofChange s with cond := some uptoSmall }

/-- 'laws.FnExactWrapAngle', WHERE WHAT IT READS IS OF BULK AT MOST 1048576: true; the input reads as it did. -/
def fnExactWrapAngleUptoRow : OpenClaim := { program := "ytlekfoboolemgaa", sum := "b334a366a3d8f938261f407c751f39cc7c02fe94e20eb8212bd0732c98029d8f", func := "loop.example/g01254/laws.FnExactWrapAngle", spec := "fnExactWrapAngle", plainKeys := false, apart := false, narrowed := true }
def FnExactWrapAngleUptoSaid : Prop := fnExactWrapAngleUptoRow.holds Try.pinned (OpenSpec.upto fnExactWrapAngleSpec)

/-- 'laws.FnExactTurnFrom', WHERE WHAT IT READS IS OF BULK AT MOST 1048576: true; the input reads as it did. -/
def fnExactTurnFromUptoRow : OpenClaim := { program := "ytlekfoboolemgaa", sum := "b334a366a3d8f938261f407c751f39cc7c02fe94e20eb8212bd0732c98029d8f", func := "loop.example/g01254/laws.FnExactTurnFrom", spec := "fnExactTurnFrom", plainKeys := false, apart := false, narrowed := true }
def FnExactTurnFromUptoSaid : Prop := fnExactTurnFromUptoRow.holds Try.pinned (OpenSpec.upto fnExactTurnFromSpec)

/-- 'laws.FnExactValidDisk', WHERE WHAT IT READS IS OF BULK AT MOST 1048576: true; the input reads as it did. -/
def fnExactValidDiskUptoRow : OpenClaim := { program := "ytlekfoboolemgaa", sum := "b334a366a3d8f938261f407c751f39cc7c02fe94e20eb8212bd0732c98029d8f", func := "loop.example/g01254/laws.FnExactValidDisk", spec := "fnExactValidDisk", unfollowed := true, recurses := true, plainKeys := false, apart := false, narrowed := true }
def FnExactValidDiskUptoSaid : Prop := fnExactValidDiskUptoRow.holds Try.pinned (OpenSpec.upto fnExactValidDiskSpec)

/-- 'laws.FnExactSameDisk', WHERE WHAT IT READS IS OF BULK AT MOST 1048576: true; the input reads as it did. -/
def fnExactSameDiskUptoRow : OpenClaim := { program := "ytlekfoboolemgaa", sum := "b334a366a3d8f938261f407c751f39cc7c02fe94e20eb8212bd0732c98029d8f", func := "loop.example/g01254/laws.FnExactSameDisk", spec := "fnExactSameDisk", plainKeys := false, apart := false, narrowed := true }
def FnExactSameDiskUptoSaid : Prop := fnExactSameDiskUptoRow.holds Try.pinned (OpenSpec.upto fnExactSameDiskSpec)

/-- 'laws.FnExactFaultAt', WHERE WHAT IT READS IS OF BULK AT MOST 1048576: true; the input reads as it did. -/
def fnExactFaultAtUptoRow : OpenClaim := { program := "ytlekfoboolemgaa", sum := "b334a366a3d8f938261f407c751f39cc7c02fe94e20eb8212bd0732c98029d8f", func := "loop.example/g01254/laws.FnExactFaultAt", spec := "fnExactFaultAt", unfollowed := true, recurses := true, plainKeys := false, apart := false, narrowed := true }
def FnExactFaultAtUptoSaid : Prop := fnExactFaultAtUptoRow.holds Try.pinned (OpenSpec.upto fnExactFaultAtSpec)

/-- 'laws.FnExactSwingAt', WHERE WHAT IT READS IS OF BULK AT MOST 1048576: true; the input reads as it did. -/
def fnExactSwingAtUptoRow : OpenClaim := { program := "ytlekfoboolemgaa", sum := "b334a366a3d8f938261f407c751f39cc7c02fe94e20eb8212bd0732c98029d8f", func := "loop.example/g01254/laws.FnExactSwingAt", spec := "fnExactSwingAt", unfollowed := true, recurses := true, plainKeys := false, apart := false, narrowed := true }
def FnExactSwingAtUptoSaid : Prop := fnExactSwingAtUptoRow.holds Try.pinned (OpenSpec.upto fnExactSwingAtSpec)

/-- 'laws.FnExactReadHead', WHERE WHAT IT READS IS OF BULK AT MOST 1048576: true; the input reads as it did. -/
def fnExactReadHeadUptoRow : OpenClaim := { program := "ytlekfoboolemgaa", sum := "b334a366a3d8f938261f407c751f39cc7c02fe94e20eb8212bd0732c98029d8f", func := "loop.example/g01254/laws.FnExactReadHead", spec := "fnExactReadHead", unfollowed := true, recurses := true, plainKeys := false, apart := false, narrowed := true }
def FnExactReadHeadUptoSaid : Prop := fnExactReadHeadUptoRow.holds Try.pinned (OpenSpec.upto fnExactReadHeadSpec)

/-- 'laws.FnExactReadTwo', WHERE WHAT IT READS IS OF BULK AT MOST 1048576: true; the input reads as it did. -/
def fnExactReadTwoUptoRow : OpenClaim := { program := "ytlekfoboolemgaa", sum := "b334a366a3d8f938261f407c751f39cc7c02fe94e20eb8212bd0732c98029d8f", func := "loop.example/g01254/laws.FnExactReadTwo", spec := "fnExactReadTwo", unfollowed := true, recurses := true, plainKeys := false, apart := false, narrowed := true }
def FnExactReadTwoUptoSaid : Prop := fnExactReadTwoUptoRow.holds Try.pinned (OpenSpec.upto fnExactReadTwoSpec)

/-- 'laws.FnExactMeanOfTwo', WHERE WHAT IT READS IS OF BULK AT MOST 1048576: true; the input reads as it did. -/
def fnExactMeanOfTwoUptoRow : OpenClaim := { program := "ytlekfoboolemgaa", sum := "b334a366a3d8f938261f407c751f39cc7c02fe94e20eb8212bd0732c98029d8f", func := "loop.example/g01254/laws.FnExactMeanOfTwo", spec := "fnExactMeanOfTwo", unfollowed := true, recurses := true, plainKeys := false, apart := false, narrowed := true }
def FnExactMeanOfTwoUptoSaid : Prop := fnExactMeanOfTwoUptoRow.holds Try.pinned (OpenSpec.upto fnExactMeanOfTwoSpec)

/-- 'laws.FnExactClosingOf', WHERE WHAT IT READS IS OF BULK AT MOST 1048576: true; the input reads as it did. -/
def fnExactClosingOfUptoRow : OpenClaim := { program := "ytlekfoboolemgaa", sum := "b334a366a3d8f938261f407c751f39cc7c02fe94e20eb8212bd0732c98029d8f", func := "loop.example/g01254/laws.FnExactClosingOf", spec := "fnExactClosingOf", unfollowed := true, recurses := true, plainKeys := false, apart := false, narrowed := true }
def FnExactClosingOfUptoSaid : Prop := fnExactClosingOfUptoRow.holds Try.pinned (OpenSpec.upto fnExactClosingOfSpec)

/-- 'laws.FnExactShareClosing', WHERE WHAT IT READS IS OF BULK AT MOST 1048576: true; the input reads as it did. -/
def fnExactShareClosingUptoRow : OpenClaim := { program := "ytlekfoboolemgaa", sum := "b334a366a3d8f938261f407c751f39cc7c02fe94e20eb8212bd0732c98029d8f", func := "loop.example/g01254/laws.FnExactShareClosing", spec := "fnExactShareClosing", unfollowed := true, recurses := true, plainKeys := false, apart := false, narrowed := true }
def FnExactShareClosingUptoSaid : Prop := fnExactShareClosingUptoRow.holds Try.pinned (OpenSpec.upto fnExactShareClosingSpec)

/-- 'laws.FnExactFaultsFrom', WHERE WHAT IT READS IS OF BULK AT MOST 1048576: true; the input reads as it did. -/
def fnExactFaultsFromUptoRow : OpenClaim := { program := "ytlekfoboolemgaa", sum := "b334a366a3d8f938261f407c751f39cc7c02fe94e20eb8212bd0732c98029d8f", func := "loop.example/g01254/laws.FnExactFaultsFrom", spec := "fnExactFaultsFrom", unfollowed := true, recurses := true, plainKeys := false, apart := false, narrowed := true }
def FnExactFaultsFromUptoSaid : Prop := fnExactFaultsFromUptoRow.holds Try.pinned (OpenSpec.upto fnExactFaultsFromSpec)

end Rows
end Go.Proofs.Ytlekfoboolemgaa
