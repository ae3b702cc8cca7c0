/-
  DERIVED. GIVEN WITH THE SEED: THE CARDS: each row of YtadpoocafhddeaaDoorRows.lean that lists a variable, with what it lists TIED to the program's text (the seventh form; the later family's looks); each row that meets fmt, with fmt's text TOLD by the authors' own Lean function (tested against real Go, not proved from fmt's source: count such statements apart). THE CARD IS WHAT COUNTS. Prove the row's statement (the work); the ties are given (YtadpoocafhddeaaDoorTie.lean); close each card by the builder's one call (the guide's Derived/Test/ToyasCard.lean, 'card_holds'). Laid BY PROGRAM, IN A SANDBOX (cutbox-door.mjs). By AI agents, Wed Nov 11 2026. No macro, syntax, notation, axiom, sorry.
-/
import Derived.Test.YtadpoocafhddeaaDoorRows
import GoSem.ClaimSeven
namespace Go.Proofs.YtadpoocafhddeaaDoor
namespace Rows

/-- THE TIED CARD OF 'laws.FnExactFindStandard'. -/
def fnExactFindStandardCard : Claim7 := { stood := { row := fnExactFindStandardRow, standIns := [], harness := (true, "f85bbf8f772a44b588fee8478e21f77bd0ca06f9e064dcb78b7e3bb1d0b4042f"), looks := true }, kinds := [], alts := [], laidByText := true, laidKinds := [.handle], laidTests := true, laidLooks := .later }
def FnExactFindStandardCardSaid : Prop := Claim7.holds Tryd.pinned (.plain (OpenSpec.ofChange fnExactFindStandardSpec)) fnExactFindStandardCard

/-- THE TIED CARD OF 'laws.FnExactIsGood'. -/
def fnExactIsGoodCard : Claim7 := { stood := { row := fnExactIsGoodRow, standIns := [], harness := (true, "f85bbf8f772a44b588fee8478e21f77bd0ca06f9e064dcb78b7e3bb1d0b4042f"), looks := true }, kinds := [], alts := [], laidByText := true, laidKinds := [.handle], laidTests := true, laidLooks := .later }
def FnExactIsGoodCardSaid : Prop := Claim7.holds Tryd.pinned (.plain (OpenSpec.ofChange fnExactIsGoodSpec)) fnExactIsGoodCard

/-- THE TIED CARD OF 'laws.FnExactLastDay'. -/
def fnExactLastDayCard : Claim7 := { stood := { row := fnExactLastDayRow, standIns := [], harness := (true, "f85bbf8f772a44b588fee8478e21f77bd0ca06f9e064dcb78b7e3bb1d0b4042f"), looks := true }, kinds := [], alts := [], laidByText := true, laidKinds := [.handle], laidTests := true, laidLooks := .later }
def FnExactLastDayCardSaid : Prop := Claim7.holds Tryd.pinned (.plain (OpenSpec.ofChange fnExactLastDaySpec)) fnExactLastDayCard

/-- THE TIED CARD OF 'laws.FnExactPathTo'. -/
def fnExactPathToCard : Claim7 := { stood := { row := fnExactPathToRow, standIns := [], harness := (true, "f85bbf8f772a44b588fee8478e21f77bd0ca06f9e064dcb78b7e3bb1d0b4042f"), looks := true }, kinds := [], alts := [], laidByText := true, laidKinds := [.handle], laidTests := true, laidLooks := .later }
def FnExactPathToCardSaid : Prop := Claim7.holds Tryd.pinned (.plain (OpenSpec.ofChange fnExactPathToSpec)) fnExactPathToCard

/-- THE TIED CARD OF 'laws.FnExactAllOn'. -/
def fnExactAllOnCard : Claim7 := { stood := { row := fnExactAllOnRow, standIns := [], harness := (true, "f85bbf8f772a44b588fee8478e21f77bd0ca06f9e064dcb78b7e3bb1d0b4042f"), looks := true }, kinds := [], alts := [], laidByText := true, laidKinds := [.handle], laidTests := true, laidLooks := .later }
def FnExactAllOnCardSaid : Prop := Claim7.holds Tryd.pinned (.plain (OpenSpec.ofChange fnExactAllOnSpec)) fnExactAllOnCard

/-- THE TIED CARD OF 'laws.FnExactUsersOf'. -/
def fnExactUsersOfCard : Claim7 := { stood := { row := fnExactUsersOfRow, standIns := [], harness := (true, "f85bbf8f772a44b588fee8478e21f77bd0ca06f9e064dcb78b7e3bb1d0b4042f"), looks := true }, kinds := [], alts := [], laidByText := true, laidKinds := [.handle], laidTests := true, laidLooks := .later }
def FnExactUsersOfCardSaid : Prop := Claim7.holds Tryd.pinned (.plain (OpenSpec.ofChange fnExactUsersOfSpec)) fnExactUsersOfCard

/-- THE TIED CARD OF 'laws.FnExactRecallOf'. -/
def fnExactRecallOfCard : Claim7 := { stood := { row := fnExactRecallOfRow, standIns := [], harness := (true, "f85bbf8f772a44b588fee8478e21f77bd0ca06f9e064dcb78b7e3bb1d0b4042f"), looks := true }, kinds := [], alts := [], laidByText := true, laidKinds := [.handle], laidTests := true, laidLooks := .later }
def FnExactRecallOfCardSaid : Prop := Claim7.holds Tryd.pinned (.plain (OpenSpec.ofChange fnExactRecallOfSpec)) fnExactRecallOfCard

/-- THE SECOND FORM's CARD OF 'laws.FnExactFindStandard'. -/
def fnExactFindStandardUptoCard : Claim7 := { stood := { row := fnExactFindStandardUptoRow, standIns := [], harness := (true, "f85bbf8f772a44b588fee8478e21f77bd0ca06f9e064dcb78b7e3bb1d0b4042f"), looks := true }, kinds := [], alts := [], laidByText := true, laidKinds := [.handle], laidTests := true, laidLooks := .later }
def FnExactFindStandardUptoCardSaid : Prop := Claim7.holds Tryd.pinned (.plain (OpenSpec.upto fnExactFindStandardSpec)) fnExactFindStandardUptoCard

/-- THE SECOND FORM's CARD OF 'laws.FnExactIsGood'. -/
def fnExactIsGoodUptoCard : Claim7 := { stood := { row := fnExactIsGoodUptoRow, standIns := [], harness := (true, "f85bbf8f772a44b588fee8478e21f77bd0ca06f9e064dcb78b7e3bb1d0b4042f"), looks := true }, kinds := [], alts := [], laidByText := true, laidKinds := [.handle], laidTests := true, laidLooks := .later }
def FnExactIsGoodUptoCardSaid : Prop := Claim7.holds Tryd.pinned (.plain (OpenSpec.upto fnExactIsGoodSpec)) fnExactIsGoodUptoCard

/-- THE SECOND FORM's CARD OF 'laws.FnExactLastDay'. -/
def fnExactLastDayUptoCard : Claim7 := { stood := { row := fnExactLastDayUptoRow, standIns := [], harness := (true, "f85bbf8f772a44b588fee8478e21f77bd0ca06f9e064dcb78b7e3bb1d0b4042f"), looks := true }, kinds := [], alts := [], laidByText := true, laidKinds := [.handle], laidTests := true, laidLooks := .later }
def FnExactLastDayUptoCardSaid : Prop := Claim7.holds Tryd.pinned (.plain (OpenSpec.upto fnExactLastDaySpec)) fnExactLastDayUptoCard

/-- THE SECOND FORM's CARD OF 'laws.FnExactPathTo'. -/
def fnExactPathToUptoCard : Claim7 := { stood := { row := fnExactPathToUptoRow, standIns := [], harness := (true, "f85bbf8f772a44b588fee8478e21f77bd0ca06f9e064dcb78b7e3bb1d0b4042f"), looks := true }, kinds := [], alts := [], laidByText := true, laidKinds := [.handle], laidTests := true, laidLooks := .later }
def FnExactPathToUptoCardSaid : Prop := Claim7.holds Tryd.pinned (.plain (OpenSpec.upto fnExactPathToSpec)) fnExactPathToUptoCard

/-- THE SECOND FORM's CARD OF 'laws.FnExactAllOn'. -/
def fnExactAllOnUptoCard : Claim7 := { stood := { row := fnExactAllOnUptoRow, standIns := [], harness := (true, "f85bbf8f772a44b588fee8478e21f77bd0ca06f9e064dcb78b7e3bb1d0b4042f"), looks := true }, kinds := [], alts := [], laidByText := true, laidKinds := [.handle], laidTests := true, laidLooks := .later }
def FnExactAllOnUptoCardSaid : Prop := Claim7.holds Tryd.pinned (.plain (OpenSpec.upto fnExactAllOnSpec)) fnExactAllOnUptoCard

/-- THE SECOND FORM's CARD OF 'laws.FnExactUsersOf'. -/
def fnExactUsersOfUptoCard : Claim7 := { stood := { row := fnExactUsersOfUptoRow, standIns := [], harness := (true, "f85bbf8f772a44b588fee8478e21f77bd0ca06f9e064dcb78b7e3bb1d0b4042f"), looks := true }, kinds := [], alts := [], laidByText := true, laidKinds := [.handle], laidTests := true, laidLooks := .later }
def FnExactUsersOfUptoCardSaid : Prop := Claim7.holds Tryd.pinned (.plain (OpenSpec.upto fnExactUsersOfSpec)) fnExactUsersOfUptoCard

/-- THE SECOND FORM's CARD OF 'laws.FnExactRecallOf'. -/
def fnExactRecallOfUptoCard : Claim7 := { stood := { row := fnExactRecallOfUptoRow, standIns := [], harness := (true, "f85bbf8f772a44b588fee8478e21f77bd0ca06f9e064dcb78b7e3bb1d0b4042f"), looks := true }, kinds := [], alts := [], laidByText := true, laidKinds := [.handle], laidTests := true, laidLooks := .later }
def FnExactRecallOfUptoCardSaid : Prop := Claim7.holds Tryd.pinned (.plain (OpenSpec.upto fnExactRecallOfSpec)) fnExactRecallOfUptoCard
end Rows
end Go.Proofs.YtadpoocafhddeaaDoor
