/-
  DERIVED. GIVEN WITH THE SEED: THE CARDS: each row of YtonmcndedbmbfaaDoorRows.lean that lists a variable, with what it lists TIED to the program's text (the seventh form; the later family's looks); each row that meets fmt, with fmt's text TOLD by the authors' own Lean function (tested against real Go, not proved from fmt's source: count such statements apart). THE CARD IS WHAT COUNTS. Prove the row's statement (the work); the ties are given (YtonmcndedbmbfaaDoorTie.lean); close each card by the builder's one call (the guide's Derived/Test/ToyasCard.lean, 'card_holds'). Laid BY PROGRAM, IN A SANDBOX (cutbox-door.mjs). By AI agents, Wed Nov 11 2026. No macro, syntax, notation, axiom, sorry.
-/
import Derived.Test.YtonmcndedbmbfaaDoorRows
import GoSem.ClaimSeven
namespace Go.Proofs.YtonmcndedbmbfaaDoor
namespace Rows

/-- THE TIED CARD OF 'laws.FnPlaces'. -/
def fnPlacesCard : Claim7 := { stood := { row := fnPlacesRow, standIns := [], harness := (true, "01596276ff2086db542fc5cfbe26de68d93212337aaaf83721b614d4cd33b530"), looks := true }, kinds := [], alts := [], laidByText := true, laidKinds := [.sentinel, .sentinel], laidTests := true, laidLooks := .later }
def FnPlacesCardSaid : Prop := Claim7.holds Tryd.pinned (.plain (OpenSpec.ofChange fnPlacesSpec)) fnPlacesCard

/-- THE TIED CARD OF 'laws.FnOutside'. -/
def fnOutsideCard : Claim7 := { stood := { row := fnOutsideRow, standIns := [], harness := (true, "01596276ff2086db542fc5cfbe26de68d93212337aaaf83721b614d4cd33b530"), looks := true }, kinds := [], alts := [], laidByText := true, laidKinds := [.sentinel], laidTests := true, laidLooks := .later }
def FnOutsideCardSaid : Prop := Claim7.holds Tryd.pinned (.plain (OpenSpec.ofChange fnOutsideSpec)) fnOutsideCard

/-- THE SECOND FORM's CARD OF 'laws.FnPlaces'. -/
def fnPlacesUptoCard : Claim7 := { stood := { row := fnPlacesUptoRow, standIns := [], harness := (true, "01596276ff2086db542fc5cfbe26de68d93212337aaaf83721b614d4cd33b530"), looks := true }, kinds := [], alts := [], laidByText := true, laidKinds := [.sentinel, .sentinel], laidTests := true, laidLooks := .later }
def FnPlacesUptoCardSaid : Prop := Claim7.holds Tryd.pinned (.plain (OpenSpec.upto fnPlacesSpec)) fnPlacesUptoCard

/-- THE SECOND FORM's CARD OF 'laws.FnOutside'. -/
def fnOutsideUptoCard : Claim7 := { stood := { row := fnOutsideUptoRow, standIns := [], harness := (true, "01596276ff2086db542fc5cfbe26de68d93212337aaaf83721b614d4cd33b530"), looks := true }, kinds := [], alts := [], laidByText := true, laidKinds := [.sentinel], laidTests := true, laidLooks := .later }
def FnOutsideUptoCardSaid : Prop := Claim7.holds Tryd.pinned (.plain (OpenSpec.upto fnOutsideSpec)) fnOutsideUptoCard
end Rows
end Go.Proofs.YtonmcndedbmbfaaDoor
