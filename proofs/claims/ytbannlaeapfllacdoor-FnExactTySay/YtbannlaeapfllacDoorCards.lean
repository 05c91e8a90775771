/-
  DERIVED. GIVEN WITH THE SEED: THE CARDS: each row of YtbannlaeapfllacDoorRows.lean that lists a variable, with what it lists TIED to the program's text (the seventh form; the later family's looks); each row that meets fmt, with fmt's text TOLD by the authors' own Lean function (tested against real Go, not proved from fmt's source: count such statements apart). THE CARD IS WHAT COUNTS. Prove the row's statement (the work); the ties are given (YtbannlaeapfllacDoorTie.lean); close each card by the builder's one call (the guide's Derived/Test/ToyasCard.lean, 'card_holds'). Laid BY PROGRAM, IN A SANDBOX (cutbox-door.mjs). By AI agents, Wed Nov 11 2026. No macro, syntax, notation, axiom, sorry.
-/
import Derived.Test.YtbannlaeapfllacDoorRows
import GoSem.ClaimSeven
namespace Go.Proofs.YtbannlaeapfllacDoor
namespace Rows

/-- THE TIED CARD OF 'laws.FnExactTySay'. -/
def fnExactTySayCard : Claim7 := { stood := { row := fnExactTySayRow, standIns := [], harness := (true, "5ee1695e3a3e755c998cc1efa85ccd33b75b60e6bc813e875a7c3848886fff7d"), looks := true }, kinds := [], alts := [], laidByText := true, laidKinds := [.data, .data, .data], laidTests := true, laidLooks := .later }
def FnExactTySayCardSaid : Prop := Claim7.holds Tryd.pinned (.plain (OpenSpec.ofChange fnExactTySaySpec)) fnExactTySayCard

/-- THE SECOND FORM's CARD OF 'laws.FnExactTySay'. -/
def fnExactTySayUptoCard : Claim7 := { stood := { row := fnExactTySayUptoRow, standIns := [], harness := (true, "5ee1695e3a3e755c998cc1efa85ccd33b75b60e6bc813e875a7c3848886fff7d"), looks := true }, kinds := [], alts := [], laidByText := true, laidKinds := [.data, .data, .data], laidTests := true, laidLooks := .later }
def FnExactTySayUptoCardSaid : Prop := Claim7.holds Tryd.pinned (.plain (OpenSpec.upto fnExactTySaySpec)) fnExactTySayUptoCard
end Rows
end Go.Proofs.YtbannlaeapfllacDoor
