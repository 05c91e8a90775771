/-
  DERIVED. GIVEN WITH THE SEED: THE CARDS: each row of YtonmcndedbmbfabDoorRows.lean that lists a variable, with what it lists TIED to the program's text (the seventh form; the later family's looks); each row that meets fmt, with fmt's text TOLD by the authors' own Lean function (tested against real Go, not proved from fmt's source: count such statements apart). THE CARD IS WHAT COUNTS. Prove the row's statement (the work); the ties are given (YtonmcndedbmbfabDoorTie.lean); close each card by the builder's one call (the guide's Derived/Test/ToyasCard.lean, 'card_holds'). Laid BY PROGRAM, IN A SANDBOX (cutbox-door.mjs). By AI agents, Wed Nov 11 2026. No macro, syntax, notation, axiom, sorry.
-/
import Derived.Test.YtonmcndedbmbfabDoorRows
import GoSem.ClaimSeven
namespace Go.Proofs.YtonmcndedbmbfabDoor
namespace Rows

/-- THE TIED CARD OF 'laws.FnExactAlloc'. -/
def fnExactAllocCard : Claim7 := { stood := { row := fnExactAllocRow, standIns := [], harness := (true, "90b6c341c16fc8c0da9167e02107b9268202da9a686c651932b68f1240ee79ba"), looks := true }, kinds := [], alts := [], laidByText := true, laidKinds := [.sentinel], laidTests := true, laidLooks := .later }
def FnExactAllocCardSaid : Prop := Claim7.holds Tryd.pinned (.plain (OpenSpec.ofChange fnExactAllocSpec)) fnExactAllocCard

/-- THE TIED CARD OF 'laws.FnExactLoad'. -/
def fnExactLoadCard : Claim7 := { stood := { row := fnExactLoadRow, standIns := [], harness := (true, "90b6c341c16fc8c0da9167e02107b9268202da9a686c651932b68f1240ee79ba"), looks := true }, kinds := [], alts := [], laidByText := true, laidKinds := [.sentinel], laidTests := true, laidLooks := .later }
def FnExactLoadCardSaid : Prop := Claim7.holds Tryd.pinned (.plain (OpenSpec.ofChange fnExactLoadSpec)) fnExactLoadCard

/-- THE TIED CARD OF 'laws.FnExactStore'. -/
def fnExactStoreCard : Claim7 := { stood := { row := fnExactStoreRow, standIns := [], harness := (true, "90b6c341c16fc8c0da9167e02107b9268202da9a686c651932b68f1240ee79ba"), looks := true }, kinds := [], alts := [], laidByText := true, laidKinds := [.sentinel], laidTests := true, laidLooks := .later }
def FnExactStoreCardSaid : Prop := Claim7.holds Tryd.pinned (.plain (OpenSpec.ofChange fnExactStoreSpec)) fnExactStoreCard

/-- THE SECOND FORM's CARD OF 'laws.FnExactAlloc'. -/
def fnExactAllocUptoCard : Claim7 := { stood := { row := fnExactAllocUptoRow, standIns := [], harness := (true, "90b6c341c16fc8c0da9167e02107b9268202da9a686c651932b68f1240ee79ba"), looks := true }, kinds := [], alts := [], laidByText := true, laidKinds := [.sentinel], laidTests := true, laidLooks := .later }
def FnExactAllocUptoCardSaid : Prop := Claim7.holds Tryd.pinned (.plain (OpenSpec.upto fnExactAllocSpec)) fnExactAllocUptoCard

/-- THE SECOND FORM's CARD OF 'laws.FnExactLoad'. -/
def fnExactLoadUptoCard : Claim7 := { stood := { row := fnExactLoadUptoRow, standIns := [], harness := (true, "90b6c341c16fc8c0da9167e02107b9268202da9a686c651932b68f1240ee79ba"), looks := true }, kinds := [], alts := [], laidByText := true, laidKinds := [.sentinel], laidTests := true, laidLooks := .later }
def FnExactLoadUptoCardSaid : Prop := Claim7.holds Tryd.pinned (.plain (OpenSpec.upto fnExactLoadSpec)) fnExactLoadUptoCard

/-- THE SECOND FORM's CARD OF 'laws.FnExactStore'. -/
def fnExactStoreUptoCard : Claim7 := { stood := { row := fnExactStoreUptoRow, standIns := [], harness := (true, "90b6c341c16fc8c0da9167e02107b9268202da9a686c651932b68f1240ee79ba"), looks := true }, kinds := [], alts := [], laidByText := true, laidKinds := [.sentinel], laidTests := true, laidLooks := .later }
def FnExactStoreUptoCardSaid : Prop := Claim7.holds Tryd.pinned (.plain (OpenSpec.upto fnExactStoreSpec)) fnExactStoreUptoCard
end Rows
end Go.Proofs.YtonmcndedbmbfabDoor
