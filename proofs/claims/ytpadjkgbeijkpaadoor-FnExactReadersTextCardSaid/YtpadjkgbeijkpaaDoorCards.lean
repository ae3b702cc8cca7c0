/-
  DERIVED. GIVEN WITH THE SEED: THE CARDS: each row of YtpadjkgbeijkpaaDoorRows.lean that lists a variable, with what it lists TIED to the program's text (the seventh form; the later family's looks); each row that meets fmt, with fmt's text TOLD by the authors' own Lean function (tested against real Go, not proved from fmt's source: count such statements apart). THE CARD IS WHAT COUNTS. Prove the row's statement (the work); the ties are given (YtpadjkgbeijkpaaDoorTie.lean); close each card by the builder's one call (the guide's Derived/Test/ToyasCard.lean, 'card_holds'). Laid BY PROGRAM, IN A SANDBOX (cutbox-door.mjs). By AI agents, Wed Nov 11 2026. No macro, syntax, notation, axiom, sorry.
-/
import Derived.Test.YtpadjkgbeijkpaaDoorRows
import GoSem.ClaimSeven
namespace Go.Proofs.YtpadjkgbeijkpaaDoor
namespace Rows

/-- THE TIED CARD OF 'laws.FnExactReadFrac'. -/
def fnExactReadFracCard : Claim7 := { stood := { row := fnExactReadFracRow, standIns := [], harness := (true, "95f2240e26edfe82683db9b88254decb9b10c77bea2178d2b59b83a35ee70286"), looks := true }, kinds := [], alts := [], laidByText := true, laidKinds := [.data, .data, .data, .sentinel, .sentinel], laidTests := true, laidLooks := .later }
def FnExactReadFracCardSaid : Prop := Claim7.holds Tryd.pinned (.plain (OpenSpec.ofChange fnExactReadFracSpec)) fnExactReadFracCard

/-- THE TIED CARD OF 'laws.FnExactReadSpan'. -/
def fnExactReadSpanCard : Claim7 := { stood := { row := fnExactReadSpanRow, standIns := [], harness := (true, "95f2240e26edfe82683db9b88254decb9b10c77bea2178d2b59b83a35ee70286"), looks := true }, kinds := [], alts := [], laidByText := true, laidKinds := [.data, .data, .data, .sentinel, .sentinel], laidTests := true, laidLooks := .later }
def FnExactReadSpanCardSaid : Prop := Claim7.holds Tryd.pinned (.plain (OpenSpec.ofChange fnExactReadSpanSpec)) fnExactReadSpanCard

/-- THE TIED CARD OF 'laws.FnExactScaleText'. -/
def fnExactScaleTextCard : Claim7 := { stood := { row := fnExactScaleTextRow, standIns := [], harness := (true, "95f2240e26edfe82683db9b88254decb9b10c77bea2178d2b59b83a35ee70286"), looks := true }, kinds := [], alts := [], laidByText := true, laidKinds := [.data, .data, .data], laidTests := true, laidLooks := .later }
def FnExactScaleTextCardSaid : Prop := Claim7.holds Tryd.pinned (.plain (OpenSpec.ofChange fnExactScaleTextSpec)) fnExactScaleTextCard

/-- THE TIED CARD OF 'laws.FnExactReadAngle'. -/
def fnExactReadAngleCard : Claim7 := { stood := { row := fnExactReadAngleRow, standIns := [], harness := (true, "95f2240e26edfe82683db9b88254decb9b10c77bea2178d2b59b83a35ee70286"), looks := true }, kinds := [], alts := [], laidByText := true, laidKinds := [.data, .data, .data, .data, .sentinel, .sentinel, .pinned], laidTests := true, laidLooks := .later }
def FnExactReadAngleCardSaid : Prop := Claim7.holds Tryd.pinned (.plain (OpenSpec.ofChange fnExactReadAngleSpec)) fnExactReadAngleCard

/-- THE TIED CARD OF 'laws.FnExactTableText'. -/
def fnExactTableTextCard : Claim7 := { stood := { row := fnExactTableTextRow, standIns := [], harness := (true, "95f2240e26edfe82683db9b88254decb9b10c77bea2178d2b59b83a35ee70286"), looks := true }, kinds := [], alts := [], laidByText := true, laidKinds := [.data, .data, .data], laidTests := true, laidLooks := .later }
def FnExactTableTextCardSaid : Prop := Claim7.holds Tryd.pinned (.plain (OpenSpec.ofChange fnExactTableTextSpec)) fnExactTableTextCard

/-- THE TIED CARD OF 'laws.FnExactReadersText'. -/
def fnExactReadersTextCard : Claim7 := { stood := { row := fnExactReadersTextRow, standIns := [], harness := (true, "95f2240e26edfe82683db9b88254decb9b10c77bea2178d2b59b83a35ee70286"), looks := true }, kinds := [], alts := [], laidByText := true, laidKinds := [.data, .data, .data], laidTests := true, laidLooks := .later }
def FnExactReadersTextCardSaid : Prop := Claim7.holds Tryd.pinned (.plain (OpenSpec.ofChange fnExactReadersTextSpec)) fnExactReadersTextCard

/-- THE SECOND FORM's CARD OF 'laws.FnExactReadFrac'. -/
def fnExactReadFracUptoCard : Claim7 := { stood := { row := fnExactReadFracUptoRow, standIns := [], harness := (true, "95f2240e26edfe82683db9b88254decb9b10c77bea2178d2b59b83a35ee70286"), looks := true }, kinds := [], alts := [], laidByText := true, laidKinds := [.data, .data, .data, .sentinel, .sentinel], laidTests := true, laidLooks := .later }
def FnExactReadFracUptoCardSaid : Prop := Claim7.holds Tryd.pinned (.plain (OpenSpec.upto fnExactReadFracSpec)) fnExactReadFracUptoCard

/-- THE SECOND FORM's CARD OF 'laws.FnExactReadSpan'. -/
def fnExactReadSpanUptoCard : Claim7 := { stood := { row := fnExactReadSpanUptoRow, standIns := [], harness := (true, "95f2240e26edfe82683db9b88254decb9b10c77bea2178d2b59b83a35ee70286"), looks := true }, kinds := [], alts := [], laidByText := true, laidKinds := [.data, .data, .data, .sentinel, .sentinel], laidTests := true, laidLooks := .later }
def FnExactReadSpanUptoCardSaid : Prop := Claim7.holds Tryd.pinned (.plain (OpenSpec.upto fnExactReadSpanSpec)) fnExactReadSpanUptoCard

/-- THE SECOND FORM's CARD OF 'laws.FnExactScaleText'. -/
def fnExactScaleTextUptoCard : Claim7 := { stood := { row := fnExactScaleTextUptoRow, standIns := [], harness := (true, "95f2240e26edfe82683db9b88254decb9b10c77bea2178d2b59b83a35ee70286"), looks := true }, kinds := [], alts := [], laidByText := true, laidKinds := [.data, .data, .data], laidTests := true, laidLooks := .later }
def FnExactScaleTextUptoCardSaid : Prop := Claim7.holds Tryd.pinned (.plain (OpenSpec.upto fnExactScaleTextSpec)) fnExactScaleTextUptoCard

/-- THE SECOND FORM's CARD OF 'laws.FnExactReadAngle'. -/
def fnExactReadAngleUptoCard : Claim7 := { stood := { row := fnExactReadAngleUptoRow, standIns := [], harness := (true, "95f2240e26edfe82683db9b88254decb9b10c77bea2178d2b59b83a35ee70286"), looks := true }, kinds := [], alts := [], laidByText := true, laidKinds := [.data, .data, .data, .data, .sentinel, .sentinel, .pinned], laidTests := true, laidLooks := .later }
def FnExactReadAngleUptoCardSaid : Prop := Claim7.holds Tryd.pinned (.plain (OpenSpec.upto fnExactReadAngleSpec)) fnExactReadAngleUptoCard

/-- THE SECOND FORM's CARD OF 'laws.FnExactTableText'. -/
def fnExactTableTextUptoCard : Claim7 := { stood := { row := fnExactTableTextUptoRow, standIns := [], harness := (true, "95f2240e26edfe82683db9b88254decb9b10c77bea2178d2b59b83a35ee70286"), looks := true }, kinds := [], alts := [], laidByText := true, laidKinds := [.data, .data, .data], laidTests := true, laidLooks := .later }
def FnExactTableTextUptoCardSaid : Prop := Claim7.holds Tryd.pinned (.plain (OpenSpec.upto fnExactTableTextSpec)) fnExactTableTextUptoCard

/-- THE SECOND FORM's CARD OF 'laws.FnExactReadersText'. -/
def fnExactReadersTextUptoCard : Claim7 := { stood := { row := fnExactReadersTextUptoRow, standIns := [], harness := (true, "95f2240e26edfe82683db9b88254decb9b10c77bea2178d2b59b83a35ee70286"), looks := true }, kinds := [], alts := [], laidByText := true, laidKinds := [.data, .data, .data], laidTests := true, laidLooks := .later }
def FnExactReadersTextUptoCardSaid : Prop := Claim7.holds Tryd.pinned (.plain (OpenSpec.upto fnExactReadersTextSpec)) fnExactReadersTextUptoCard
end Rows
end Go.Proofs.YtpadjkgbeijkpaaDoor
