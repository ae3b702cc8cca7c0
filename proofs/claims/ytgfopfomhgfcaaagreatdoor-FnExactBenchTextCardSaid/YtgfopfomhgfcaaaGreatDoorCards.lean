/-
  DERIVED. GIVEN WITH THE SEED: THE CARDS: each row of YtgfopfomhgfcaaaGreatDoorRows.lean that lists a variable, with what it lists TIED to the program's text (the seventh form; the later family's looks); each row that meets fmt, with fmt's text TOLD by the authors' own Lean function (tested against real Go, not proved from fmt's source: count such statements apart). THE CARD IS WHAT COUNTS. Prove the row's statement (the work); the ties are given (YtgfopfomhgfcaaaGreatDoorTie.lean); close each card by the builder's one call (the guide's Derived/Test/ToyasCard.lean, 'card_holds'). Laid BY PROGRAM, IN A SANDBOX (cutbox-door.mjs). By AI agents, Wed Nov 11 2026. No macro, syntax, notation, axiom, sorry.
-/
import Derived.Test.YtgfopfomhgfcaaaGreatDoorRows
import GoSem.ClaimSeven
namespace Go.Proofs.YtgfopfomhgfcaaaGreatDoor
namespace Rows

/-- THE TIED CARD OF 'laws.FnExactBenchText'. -/
def fnExactBenchTextCard : Claim7 := { stood := { row := fnExactBenchTextRow, standIns := [], harness := (true, "8955d514c836c671100aa1909e60c013224963fe934c943455e1d82a8b185054"), looks := true }, kinds := [], alts := [], laidByText := true, laidKinds := [.data, .data, .data], laidTests := true, laidLooks := .later }
def FnExactBenchTextCardSaid : Prop := Claim7.holds Tryz.pinned (.plain (OpenSpec.ofChange fnExactBenchTextSpec)) fnExactBenchTextCard

/-- THE TIED CARD OF 'laws.FnExactReadScale'. -/
def fnExactReadScaleCard : Claim7 := { stood := { row := fnExactReadScaleRow, standIns := [], harness := (true, "8955d514c836c671100aa1909e60c013224963fe934c943455e1d82a8b185054"), looks := true }, kinds := [], alts := [], laidByText := true, laidKinds := [.data, .data, .data, .data, .sentinel, .sentinel, .pinned], laidTests := true, laidLooks := .later }
def FnExactReadScaleCardSaid : Prop := Claim7.holds Tryz.pinned (.plain (OpenSpec.ofChange fnExactReadScaleSpec)) fnExactReadScaleCard

/-- THE TIED CARD OF 'laws.FnExactReadTable'. -/
def fnExactReadTableCard : Claim7 := { stood := { row := fnExactReadTableRow, standIns := [], harness := (true, "8955d514c836c671100aa1909e60c013224963fe934c943455e1d82a8b185054"), looks := true }, kinds := [], alts := [], laidByText := true, laidKinds := [.data, .data, .data, .data, .sentinel, .sentinel, .sentinel, .sentinel, .pinned], laidTests := true, laidLooks := .later }
def FnExactReadTableCardSaid : Prop := Claim7.holds Tryz.pinned (.plain (OpenSpec.ofChange fnExactReadTableSpec)) fnExactReadTableCard

/-- THE TIED CARD OF 'laws.FnExactReadBench'. -/
def fnExactReadBenchCard : Claim7 := { stood := { row := fnExactReadBenchRow, standIns := [], harness := (true, "8955d514c836c671100aa1909e60c013224963fe934c943455e1d82a8b185054"), looks := true }, kinds := [], alts := [], laidByText := true, laidKinds := [.data, .data, .data, .data, .sentinel, .sentinel, .pinned], laidTests := true, laidLooks := .later }
def FnExactReadBenchCardSaid : Prop := Claim7.holds Tryz.pinned (.plain (OpenSpec.ofChange fnExactReadBenchSpec)) fnExactReadBenchCard

/-- THE SECOND FORM's CARD OF 'laws.FnExactBenchText'. -/
def fnExactBenchTextUptoCard : Claim7 := { stood := { row := fnExactBenchTextUptoRow, standIns := [], harness := (true, "8955d514c836c671100aa1909e60c013224963fe934c943455e1d82a8b185054"), looks := true }, kinds := [], alts := [], laidByText := true, laidKinds := [.data, .data, .data], laidTests := true, laidLooks := .later }
def FnExactBenchTextUptoCardSaid : Prop := Claim7.holds Tryz.pinned (.plain (OpenSpec.upto fnExactBenchTextSpec)) fnExactBenchTextUptoCard

/-- THE SECOND FORM's CARD OF 'laws.FnExactReadScale'. -/
def fnExactReadScaleUptoCard : Claim7 := { stood := { row := fnExactReadScaleUptoRow, standIns := [], harness := (true, "8955d514c836c671100aa1909e60c013224963fe934c943455e1d82a8b185054"), looks := true }, kinds := [], alts := [], laidByText := true, laidKinds := [.data, .data, .data, .data, .sentinel, .sentinel, .pinned], laidTests := true, laidLooks := .later }
def FnExactReadScaleUptoCardSaid : Prop := Claim7.holds Tryz.pinned (.plain (OpenSpec.upto fnExactReadScaleSpec)) fnExactReadScaleUptoCard

/-- THE SECOND FORM's CARD OF 'laws.FnExactReadTable'. -/
def fnExactReadTableUptoCard : Claim7 := { stood := { row := fnExactReadTableUptoRow, standIns := [], harness := (true, "8955d514c836c671100aa1909e60c013224963fe934c943455e1d82a8b185054"), looks := true }, kinds := [], alts := [], laidByText := true, laidKinds := [.data, .data, .data, .data, .sentinel, .sentinel, .sentinel, .sentinel, .pinned], laidTests := true, laidLooks := .later }
def FnExactReadTableUptoCardSaid : Prop := Claim7.holds Tryz.pinned (.plain (OpenSpec.upto fnExactReadTableSpec)) fnExactReadTableUptoCard

/-- THE SECOND FORM's CARD OF 'laws.FnExactReadBench'. -/
def fnExactReadBenchUptoCard : Claim7 := { stood := { row := fnExactReadBenchUptoRow, standIns := [], harness := (true, "8955d514c836c671100aa1909e60c013224963fe934c943455e1d82a8b185054"), looks := true }, kinds := [], alts := [], laidByText := true, laidKinds := [.data, .data, .data, .data, .sentinel, .sentinel, .pinned], laidTests := true, laidLooks := .later }
def FnExactReadBenchUptoCardSaid : Prop := Claim7.holds Tryz.pinned (.plain (OpenSpec.upto fnExactReadBenchSpec)) fnExactReadBenchUptoCard
end Rows
end Go.Proofs.YtgfopfomhgfcaaaGreatDoor
