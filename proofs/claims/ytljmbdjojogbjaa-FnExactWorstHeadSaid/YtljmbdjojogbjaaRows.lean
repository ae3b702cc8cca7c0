/-
  No cell of these rows narrows 'for every input' (looked for: loops, veiled, ifaces, maps, wideKeys, modest, calm, conditions, laid).
  DERIVED. THE GIVEN ROWS OF THIS SEAT. 4 by the template 'for every input the law returns true; each argument reads behind the call as it read before'; 0 by the template 'total and deterministic' (their statements: YtljmbdjojogbjaaTotals.lean).
  GIVEN WITH THE SEED: the statements are not yours to turn. If you find one false, say at which input.
  Laid BY PROGRAM, IN A SANDBOX (cutbox-rows.mjs): the forced cells as the released guide's own fill.sh prints them over the translation cae94f7c40bbb9b8… (all of the seat's roots in one cut). By AI agents, Wed Nov 11 2026. No macro, syntax, notation, axiom, sorry.
-/
import Derived.Test.YtljmbdjojogbjaaChecked
import GoSem.Claim
import GoSem.ClaimJoined
import GoSem.ClaimMapViews
import Derived.JoinedTies
import Derived.KernelRfl
namespace Go.Proofs.Ytljmbdjojogbjaa
/- THE CELL 'sum', in the pinned program and in every row, IS THE sha256 OF THE DUMP (.gsa) THAT YtljmbdjojogbjaaProg.lean LOADS. Nothing in Lean hashes anything: it is a label: what it is worth is what the hold of that sum in a sandbox is worth. -/
noncomputable def Try.pinned : Pinned := { name := "ytljmbdjojogbjaa", sum := "cae94f7c40bbb9b854a254c8cfe86e13f1ff067d9ba6e8515af22b20a7cf3d6f", checked := Try.checked }
namespace Rows
def none {H : Type} : Left H := { results := [], args := [] }

/-- 'laws.FnExactWorstHead': WHATEVER THE INPUT: true; the input reads as it did. -/
def fnExactWorstHeadSpec : ChangeSpec := { name := "fnExactWorstHead", fn := fun _ => fun
  | [d1, d2, d3] => { results := [.lit (.bool true)], args := [d1, d2, d3] }
  | _ => none }
def fnExactWorstHeadRow : OpenClaim := { program := "ytljmbdjojogbjaa", sum := "cae94f7c40bbb9b854a254c8cfe86e13f1ff067d9ba6e8515af22b20a7cf3d6f", func := "loop.example/g01254/laws.FnExactWorstHead", spec := "fnExactWorstHead", unfollowed := true, recurses := true, plainKeys := false, apart := false }
def FnExactWorstHeadSaid : Prop := fnExactWorstHeadRow.holds Try.pinned (OpenSpec.ofChange fnExactWorstHeadSpec)

/-- ITS FALSE NEIGHBOUR: 'it returns false'. Refute it at one input. -/
def fnExactWorstHeadWrong : ChangeSpec := { name := "fnExactWorstHead", fn := fun _ => fun
  | [d1, d2, d3] => { results := [.lit (.bool false)], args := [d1, d2, d3] }
  | _ => none }
def FnExactWorstHeadWrongFalsely : Prop := fnExactWorstHeadRow.holds Try.pinned (OpenSpec.ofChange fnExactWorstHeadWrong)

/-- 'laws.FnExactSectorsOf': WHATEVER THE INPUT: true; the input reads as it did. -/
def fnExactSectorsOfSpec : ChangeSpec := { name := "fnExactSectorsOf", fn := fun _ => fun
  | [d1, d2, d3] => { results := [.lit (.bool true)], args := [d1, d2, d3] }
  | _ => none }
def fnExactSectorsOfRow : OpenClaim := { program := "ytljmbdjojogbjaa", sum := "cae94f7c40bbb9b854a254c8cfe86e13f1ff067d9ba6e8515af22b20a7cf3d6f", func := "loop.example/g01254/laws.FnExactSectorsOf", spec := "fnExactSectorsOf", unfollowed := true, recurses := true, plainKeys := false, apart := false }
def FnExactSectorsOfSaid : Prop := fnExactSectorsOfRow.holds Try.pinned (OpenSpec.ofChange fnExactSectorsOfSpec)

/-- ITS FALSE NEIGHBOUR: 'it returns false'. Refute it at one input. -/
def fnExactSectorsOfWrong : ChangeSpec := { name := "fnExactSectorsOf", fn := fun _ => fun
  | [d1, d2, d3] => { results := [.lit (.bool false)], args := [d1, d2, d3] }
  | _ => none }
def FnExactSectorsOfWrongFalsely : Prop := fnExactSectorsOfRow.holds Try.pinned (OpenSpec.ofChange fnExactSectorsOfWrong)

/-- 'laws.FnExactRepeatAngle': WHATEVER THE INPUT: true; the input reads as it did. -/
def fnExactRepeatAngleSpec : ChangeSpec := { name := "fnExactRepeatAngle", fn := fun _ => fun
  | [d1, d2, d3, d4, d5] => { results := [.lit (.bool true)], args := [d1, d2, d3, d4, d5] }
  | _ => none }
def fnExactRepeatAngleRow : OpenClaim := { program := "ytljmbdjojogbjaa", sum := "cae94f7c40bbb9b854a254c8cfe86e13f1ff067d9ba6e8515af22b20a7cf3d6f", func := "loop.example/g01254/laws.FnExactRepeatAngle", spec := "fnExactRepeatAngle", unfollowed := true, recurses := true, plainKeys := false, apart := false }
def FnExactRepeatAngleSaid : Prop := fnExactRepeatAngleRow.holds Try.pinned (OpenSpec.ofChange fnExactRepeatAngleSpec)

/-- ITS FALSE NEIGHBOUR: 'it returns false'. Refute it at one input. -/
def fnExactRepeatAngleWrong : ChangeSpec := { name := "fnExactRepeatAngle", fn := fun _ => fun
  | [d1, d2, d3, d4, d5] => { results := [.lit (.bool false)], args := [d1, d2, d3, d4, d5] }
  | _ => none }
def FnExactRepeatAngleWrongFalsely : Prop := fnExactRepeatAngleRow.holds Try.pinned (OpenSpec.ofChange fnExactRepeatAngleWrong)

/-- 'laws.FnExactBestRepeats': WHATEVER THE INPUT: true; the input reads as it did. -/
def fnExactBestRepeatsSpec : ChangeSpec := { name := "fnExactBestRepeats", fn := fun _ => fun
  | [d1, d2, d3, d4, d5] => { results := [.lit (.bool true)], args := [d1, d2, d3, d4, d5] }
  | _ => none }
def fnExactBestRepeatsRow : OpenClaim := { program := "ytljmbdjojogbjaa", sum := "cae94f7c40bbb9b854a254c8cfe86e13f1ff067d9ba6e8515af22b20a7cf3d6f", func := "loop.example/g01254/laws.FnExactBestRepeats", spec := "fnExactBestRepeats", unfollowed := true, recurses := true, plainKeys := false, apart := false }
def FnExactBestRepeatsSaid : Prop := fnExactBestRepeatsRow.holds Try.pinned (OpenSpec.ofChange fnExactBestRepeatsSpec)

/-- ITS FALSE NEIGHBOUR: 'it returns false'. Refute it at one input. -/
def fnExactBestRepeatsWrong : ChangeSpec := { name := "fnExactBestRepeats", fn := fun _ => fun
  | [d1, d2, d3, d4, d5] => { results := [.lit (.bool false)], args := [d1, d2, d3, d4, d5] }
  | _ => none }
def FnExactBestRepeatsWrongFalsely : Prop := fnExactBestRepeatsRow.holds Try.pinned (OpenSpec.ofChange fnExactBestRepeatsWrong)

/- THE SECOND FORM. 'bulk': how many values and letters a reading holds, each counted each time it is reached (what is shared counts as often as it is met; a slice's spare places count too). A statement '..UptoSaid' is the law's where the arguments, and the package variables that the reading takes, are together of bulk at most 1048576: NARROWER than '..Said'. Prove '..Said' where nothing that the law and all that it calls make is longer than what came in: it says more and counts as full. Else prove '..UptoSaid'. A law counts once. -/
mutual
def uptoBulk {H : Type} : DataW H → Nat
  | .lit (.string bytes) => bytes.length + 1
  | .lit _ => 1
  | .nil => 1
  | .ptr d => uptoBulk d + 1
  | .slice elems spare => uptoBulkAll elems + uptoBulkAll spare + 1
  | .agg parts => uptoBulkAll parts + 1
  | .iface _ d => uptoBulk d + 1
  | .map entries => uptoBulkEntries entries + 1
  | .held _ => 1
def uptoBulkAll {H : Type} : List (DataW H) → Nat
  | [] => 0
  | d :: r => uptoBulk d + uptoBulkAll r
def uptoBulkEntries {H : Type} : List (Lit × DataW H) → Nat
  | [] => 0
  | x :: r => uptoBulkEntry x + uptoBulkEntries r
def uptoBulkEntry {H : Type} : Lit × DataW H → Nat
  | (.string bytes, d) => bytes.length + uptoBulk d + 1
  | (_, d) => uptoBulk d + 1
 end
def uptoSmall : (H : Type) → List (DataW H) → Bool := fun _ ds => decide (uptoBulkAll ds ≤ 1048576)
def OpenSpec.upto (s : _root_.Go.ChangeSpec) : _root_.Go.OpenSpec := { _root_.Go.OpenSpec.ofChange s with cond := some uptoSmall }

/-- 'laws.FnExactWorstHead', WHERE WHAT IT READS IS OF BULK AT MOST 1048576: true; the input reads as it did. -/
def fnExactWorstHeadUptoRow : OpenClaim := { program := "ytljmbdjojogbjaa", sum := "cae94f7c40bbb9b854a254c8cfe86e13f1ff067d9ba6e8515af22b20a7cf3d6f", func := "loop.example/g01254/laws.FnExactWorstHead", spec := "fnExactWorstHead", unfollowed := true, recurses := true, plainKeys := false, apart := false, narrowed := true }
def FnExactWorstHeadUptoSaid : Prop := fnExactWorstHeadUptoRow.holds Try.pinned (OpenSpec.upto fnExactWorstHeadSpec)

/-- 'laws.FnExactSectorsOf', WHERE WHAT IT READS IS OF BULK AT MOST 1048576: true; the input reads as it did. -/
def fnExactSectorsOfUptoRow : OpenClaim := { program := "ytljmbdjojogbjaa", sum := "cae94f7c40bbb9b854a254c8cfe86e13f1ff067d9ba6e8515af22b20a7cf3d6f", func := "loop.example/g01254/laws.FnExactSectorsOf", spec := "fnExactSectorsOf", unfollowed := true, recurses := true, plainKeys := false, apart := false, narrowed := true }
def FnExactSectorsOfUptoSaid : Prop := fnExactSectorsOfUptoRow.holds Try.pinned (OpenSpec.upto fnExactSectorsOfSpec)

/-- 'laws.FnExactRepeatAngle', WHERE WHAT IT READS IS OF BULK AT MOST 1048576: true; the input reads as it did. -/
def fnExactRepeatAngleUptoRow : OpenClaim := { program := "ytljmbdjojogbjaa", sum := "cae94f7c40bbb9b854a254c8cfe86e13f1ff067d9ba6e8515af22b20a7cf3d6f", func := "loop.example/g01254/laws.FnExactRepeatAngle", spec := "fnExactRepeatAngle", unfollowed := true, recurses := true, plainKeys := false, apart := false, narrowed := true }
def FnExactRepeatAngleUptoSaid : Prop := fnExactRepeatAngleUptoRow.holds Try.pinned (OpenSpec.upto fnExactRepeatAngleSpec)

/-- 'laws.FnExactBestRepeats', WHERE WHAT IT READS IS OF BULK AT MOST 1048576: true; the input reads as it did. -/
def fnExactBestRepeatsUptoRow : OpenClaim := { program := "ytljmbdjojogbjaa", sum := "cae94f7c40bbb9b854a254c8cfe86e13f1ff067d9ba6e8515af22b20a7cf3d6f", func := "loop.example/g01254/laws.FnExactBestRepeats", spec := "fnExactBestRepeats", unfollowed := true, recurses := true, plainKeys := false, apart := false, narrowed := true }
def FnExactBestRepeatsUptoSaid : Prop := fnExactBestRepeatsUptoRow.holds Try.pinned (OpenSpec.upto fnExactBestRepeatsSpec)

end Rows
end Go.Proofs.Ytljmbdjojogbjaa
