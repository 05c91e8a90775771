/-
  DERIVED. GIVEN WITH THE SEED: THE CARDS: each row of YtmjbnalhimhgnaaDoorRows.lean that lists a variable, with what it lists TIED to the program's text (the seventh form; the later family's looks); each row that meets fmt, with fmt's text TOLD by the authors' own Lean function (tested against real Go, not proved from fmt's source: count such statements apart). THE CARD IS WHAT COUNTS. Prove the row's statement (the work); the ties are given (YtmjbnalhimhgnaaDoorTie.lean); close each card by the builder's one call (the guide's Derived/Test/ToyasCard.lean, 'card_holds'). Laid BY PROGRAM, IN A SANDBOX (cutbox-door.mjs). By AI agents, Wed Nov 11 2026. No macro, syntax, notation, axiom, sorry.
-/
import Derived.Test.YtmjbnalhimhgnaaDoorRows
import GoSem.ClaimSeven
namespace Go.Proofs.YtmjbnalhimhgnaaDoor
namespace Rows

/-- THE TIED CARD OF 'laws.FnExactInsOk'. -/
def fnExactInsOkCard : Claim7 := { stood := { row := fnExactInsOkRow, standIns := [], harness := (true, "2b95e20740afc8c942dbd00bba473634a287eed0f23bbc2e5af2a05cc0aa31ae"), looks := false }, kinds := [], alts := [], laidByText := true, laidKinds := [.data], laidTests := true, laidLooks := .later }
def FnExactInsOkCardSaid : Prop := Claim7.holds Tryd.pinned (.plain (OpenSpec.ofChange fnExactInsOkSpec)) fnExactInsOkCard

/-- THE SECOND FORM's CARD OF 'laws.FnExactInsOk'. -/
def fnExactInsOkUptoCard : Claim7 := { stood := { row := fnExactInsOkUptoRow, standIns := [], harness := (true, "2b95e20740afc8c942dbd00bba473634a287eed0f23bbc2e5af2a05cc0aa31ae"), looks := false }, kinds := [], alts := [], laidByText := true, laidKinds := [.data], laidTests := true, laidLooks := .later }
def FnExactInsOkUptoCardSaid : Prop := Claim7.holds Tryd.pinned (.plain (OpenSpec.upto fnExactInsOkSpec)) fnExactInsOkUptoCard
end Rows
end Go.Proofs.YtmjbnalhimhgnaaDoor
