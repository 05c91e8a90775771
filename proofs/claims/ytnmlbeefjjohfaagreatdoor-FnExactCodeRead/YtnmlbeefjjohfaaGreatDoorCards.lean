/-
  DERIVED. GIVEN WITH THE SEED: THE CARDS: each row of YtnmlbeefjjohfaaGreatDoorRows.lean that lists a variable, with what it lists TIED to the program's text (the seventh form; the later family's looks); each row that meets fmt, with fmt's text TOLD by the authors' own Lean function (tested against real Go, not proved from fmt's source: count such statements apart). THE CARD IS WHAT COUNTS. Prove the row's statement (the work); the ties are given (YtnmlbeefjjohfaaGreatDoorTie.lean); close each card by the builder's one call (the guide's Derived/Test/ToyasCard.lean, 'card_holds'). Laid BY PROGRAM, IN A SANDBOX (cutbox-door.mjs). By AI agents, Wed Nov 11 2026. No macro, syntax, notation, axiom, sorry.
-/
import Derived.Test.YtnmlbeefjjohfaaGreatDoorRows
import GoSem.ClaimSeven
namespace Go.Proofs.YtnmlbeefjjohfaaGreatDoor
namespace Rows

/-- THE TIED CARD OF 'laws.FnExactCodeRead'. -/
def fnExactCodeReadCard : Claim7 := { stood := { row := fnExactCodeReadRow, standIns := [], harness := (true, "9855ad45c8e4797e1f9cb1fd15a97e9ae1dccf96fe7c14b183e2e9d0aaa9d5e6"), looks := true }, kinds := [], alts := [], laidByText := true, laidKinds := [.data], laidTests := true, laidLooks := .later }
def FnExactCodeReadCardSaid : Prop := Claim7.holds Tryz.pinned (.plain (OpenSpec.ofChange fnExactCodeReadSpec)) fnExactCodeReadCard

/-- THE SECOND FORM's CARD OF 'laws.FnExactCodeRead'. -/
def fnExactCodeReadUptoCard : Claim7 := { stood := { row := fnExactCodeReadUptoRow, standIns := [], harness := (true, "9855ad45c8e4797e1f9cb1fd15a97e9ae1dccf96fe7c14b183e2e9d0aaa9d5e6"), looks := true }, kinds := [], alts := [], laidByText := true, laidKinds := [.data], laidTests := true, laidLooks := .later }
def FnExactCodeReadUptoCardSaid : Prop := Claim7.holds Tryz.pinned (.plain (OpenSpec.upto fnExactCodeReadSpec)) fnExactCodeReadUptoCard
end Rows
end Go.Proofs.YtnmlbeefjjohfaaGreatDoor
