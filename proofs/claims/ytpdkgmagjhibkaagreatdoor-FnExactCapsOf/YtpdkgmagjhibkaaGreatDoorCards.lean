/-
  DERIVED. GIVEN WITH THE SEED: THE CARDS: each row of YtpdkgmagjhibkaaGreatDoorRows.lean that lists a variable, with what it lists TIED to the program's text (the seventh form; the later family's looks); each row that meets fmt, with fmt's text TOLD by the authors' own Lean function (tested against real Go, not proved from fmt's source: count such statements apart). THE CARD IS WHAT COUNTS. Prove the row's statement (the work); the ties are given (YtpdkgmagjhibkaaGreatDoorTie.lean); close each card by the builder's one call (the guide's Derived/Test/ToyasCard.lean, 'card_holds'). Laid BY PROGRAM, IN A SANDBOX (cutbox-door.mjs). By AI agents, Wed Nov 11 2026. No macro, syntax, notation, axiom, sorry.
-/
import Derived.Test.YtpdkgmagjhibkaaGreatDoorRows
import GoSem.ClaimSeven
namespace Go.Proofs.YtpdkgmagjhibkaaGreatDoor
namespace Rows

/-- THE TIED CARD OF 'laws.FnExactProgramOk'. -/
def fnExactProgramOkCard : Claim7 := { stood := { row := fnExactProgramOkRow, standIns := [], harness := (true, "ddcac85e131ea30d25df43fa27b6336f42bc3133bb15d022aa795fcf634e7562"), looks := true }, kinds := [], alts := [], laidByText := true, laidKinds := [.data], laidTests := true, laidLooks := .later }
def FnExactProgramOkCardSaid : Prop := Claim7.holds Tryz.pinned (.plain (OpenSpec.ofChange fnExactProgramOkSpec)) fnExactProgramOkCard

/-- THE TIED CARD OF 'laws.FnExactCodeBytes'. -/
def fnExactCodeBytesCard : Claim7 := { stood := { row := fnExactCodeBytesRow, standIns := [], harness := (true, "ddcac85e131ea30d25df43fa27b6336f42bc3133bb15d022aa795fcf634e7562"), looks := true }, kinds := [], alts := [], laidByText := true, laidKinds := [.data], laidTests := true, laidLooks := .later }
def FnExactCodeBytesCardSaid : Prop := Claim7.holds Tryz.pinned (.plain (OpenSpec.ofChange fnExactCodeBytesSpec)) fnExactCodeBytesCard

/-- THE TIED CARD OF 'laws.FnExactCapsOf'. -/
def fnExactCapsOfCard : Claim7 := { stood := { row := fnExactCapsOfRow, standIns := [], harness := (true, "ddcac85e131ea30d25df43fa27b6336f42bc3133bb15d022aa795fcf634e7562"), looks := true }, kinds := [], alts := [], laidByText := true, laidKinds := [.data], laidTests := true, laidLooks := .later }
def FnExactCapsOfCardSaid : Prop := Claim7.holds Tryz.pinned (.plain (OpenSpec.ofChange fnExactCapsOfSpec)) fnExactCapsOfCard

/-- THE SECOND FORM's CARD OF 'laws.FnExactProgramOk'. -/
def fnExactProgramOkUptoCard : Claim7 := { stood := { row := fnExactProgramOkUptoRow, standIns := [], harness := (true, "ddcac85e131ea30d25df43fa27b6336f42bc3133bb15d022aa795fcf634e7562"), looks := true }, kinds := [], alts := [], laidByText := true, laidKinds := [.data], laidTests := true, laidLooks := .later }
def FnExactProgramOkUptoCardSaid : Prop := Claim7.holds Tryz.pinned (.plain (OpenSpec.upto fnExactProgramOkSpec)) fnExactProgramOkUptoCard

/-- THE SECOND FORM's CARD OF 'laws.FnExactCodeBytes'. -/
def fnExactCodeBytesUptoCard : Claim7 := { stood := { row := fnExactCodeBytesUptoRow, standIns := [], harness := (true, "ddcac85e131ea30d25df43fa27b6336f42bc3133bb15d022aa795fcf634e7562"), looks := true }, kinds := [], alts := [], laidByText := true, laidKinds := [.data], laidTests := true, laidLooks := .later }
def FnExactCodeBytesUptoCardSaid : Prop := Claim7.holds Tryz.pinned (.plain (OpenSpec.upto fnExactCodeBytesSpec)) fnExactCodeBytesUptoCard

/-- THE SECOND FORM's CARD OF 'laws.FnExactCapsOf'. -/
def fnExactCapsOfUptoCard : Claim7 := { stood := { row := fnExactCapsOfUptoRow, standIns := [], harness := (true, "ddcac85e131ea30d25df43fa27b6336f42bc3133bb15d022aa795fcf634e7562"), looks := true }, kinds := [], alts := [], laidByText := true, laidKinds := [.data], laidTests := true, laidLooks := .later }
def FnExactCapsOfUptoCardSaid : Prop := Claim7.holds Tryz.pinned (.plain (OpenSpec.upto fnExactCapsOfSpec)) fnExactCapsOfUptoCard
end Rows
end Go.Proofs.YtpdkgmagjhibkaaGreatDoor
