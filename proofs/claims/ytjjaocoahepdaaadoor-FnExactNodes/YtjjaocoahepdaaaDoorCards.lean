/-
  DERIVED. GIVEN WITH THE SEED: THE CARDS: each row of YtjjaocoahepdaaaDoorRows.lean that lists a variable, with what it lists TIED to the program's text (the seventh form; the later family's looks); each row that meets fmt, with fmt's text TOLD by the authors' own Lean function (tested against real Go, not proved from fmt's source: count such statements apart). THE CARD IS WHAT COUNTS. Prove the row's statement (the work); the ties are given (YtjjaocoahepdaaaDoorTie.lean); close each card by the builder's one call (the guide's Derived/Test/ToyasCard.lean, 'card_holds'). Laid BY PROGRAM, IN A SANDBOX (cutbox-door.mjs). By AI agents, Wed Nov 11 2026. No macro, syntax, notation, axiom, sorry.
-/
import Derived.Test.YtjjaocoahepdaaaDoorRows
import GoSem.ClaimSeven
namespace Go.Proofs.YtjjaocoahepdaaaDoor
namespace Rows

/-- THE TIED CARD OF 'laws.FnExactNodes'. -/
def fnExactNodesCard : Claim7 := { stood := { row := fnExactNodesRow, standIns := [], harness := (true, "7096f9db51a9438fb6ae315f7c2db699a0002df61d31deb0b3a42a9595fe8056"), looks := false }, kinds := [], alts := [], laidByText := true, laidKinds := [.data], laidTests := true, laidLooks := .later }
def FnExactNodesCardSaid : Prop := Claim7.holds Tryd.pinned (.plain (OpenSpec.ofChange fnExactNodesSpec)) fnExactNodesCard

/-- THE SECOND FORM's CARD OF 'laws.FnExactNodes'. -/
def fnExactNodesUptoCard : Claim7 := { stood := { row := fnExactNodesUptoRow, standIns := [], harness := (true, "7096f9db51a9438fb6ae315f7c2db699a0002df61d31deb0b3a42a9595fe8056"), looks := false }, kinds := [], alts := [], laidByText := true, laidKinds := [.data], laidTests := true, laidLooks := .later }
def FnExactNodesUptoCardSaid : Prop := Claim7.holds Tryd.pinned (.plain (OpenSpec.upto fnExactNodesSpec)) fnExactNodesUptoCard
end Rows
end Go.Proofs.YtjjaocoahepdaaaDoor
