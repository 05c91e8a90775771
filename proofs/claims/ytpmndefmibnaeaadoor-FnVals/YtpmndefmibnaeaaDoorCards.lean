/-
  DERIVED. GIVEN WITH THE SEED: THE CARDS: each row of YtpmndefmibnaeaaDoorRows.lean that lists a variable, with what it lists TIED to the program's text (the seventh form; the later family's looks); each row that meets fmt, with fmt's text TOLD by the authors' own Lean function (tested against real Go, not proved from fmt's source: count such statements apart). THE CARD IS WHAT COUNTS. Prove the row's statement (the work); the ties are given (YtpmndefmibnaeaaDoorTie.lean); close each card by the builder's one call (the guide's Derived/Test/ToyasCard.lean, 'card_holds'). Laid BY PROGRAM, IN A SANDBOX (cutbox-door.mjs). By AI agents, Wed Nov 11 2026. No macro, syntax, notation, axiom, sorry.
-/
import Derived.Test.YtpmndefmibnaeaaDoorRows
import GoSem.ClaimSeven
namespace Go.Proofs.YtpmndefmibnaeaaDoor
namespace Rows

/-- THE TIED CARD OF 'laws.FnExactShowVal'. -/
def fnExactShowValCard : Claim7 := { stood := { row := fnExactShowValRow, standIns := [], harness := (true, "fbec91287f32c406842dd7b7c00aa5e82dd9cf3dd0c0c52e52734b15a80d207c"), looks := false }, kinds := [], alts := [], laidByText := true, laidKinds := [.data, .data, .data], laidTests := true, laidLooks := .later }
def FnExactShowValCardSaid : Prop := Claim7.holds Tryd.pinned (.plain (OpenSpec.ofChange fnExactShowValSpec)) fnExactShowValCard

/-- THE TIED CARD OF 'laws.FnVals'. -/
def fnValsCard : Claim7 := { stood := { row := fnValsRow, standIns := [], harness := (true, "fbec91287f32c406842dd7b7c00aa5e82dd9cf3dd0c0c52e52734b15a80d207c"), looks := false }, kinds := [], alts := [], laidByText := true, laidKinds := [.data, .data, .data], laidTests := true, laidLooks := .later }
def FnValsCardSaid : Prop := Claim7.holds Tryd.pinned (.plain (OpenSpec.ofChange fnValsSpec)) fnValsCard

/-- THE SECOND FORM's CARD OF 'laws.FnExactShowVal'. -/
def fnExactShowValUptoCard : Claim7 := { stood := { row := fnExactShowValUptoRow, standIns := [], harness := (true, "fbec91287f32c406842dd7b7c00aa5e82dd9cf3dd0c0c52e52734b15a80d207c"), looks := false }, kinds := [], alts := [], laidByText := true, laidKinds := [.data, .data, .data], laidTests := true, laidLooks := .later }
def FnExactShowValUptoCardSaid : Prop := Claim7.holds Tryd.pinned (.plain (OpenSpec.upto fnExactShowValSpec)) fnExactShowValUptoCard

/-- THE SECOND FORM's CARD OF 'laws.FnVals'. -/
def fnValsUptoCard : Claim7 := { stood := { row := fnValsUptoRow, standIns := [], harness := (true, "fbec91287f32c406842dd7b7c00aa5e82dd9cf3dd0c0c52e52734b15a80d207c"), looks := false }, kinds := [], alts := [], laidByText := true, laidKinds := [.data, .data, .data], laidTests := true, laidLooks := .later }
def FnValsUptoCardSaid : Prop := Claim7.holds Tryd.pinned (.plain (OpenSpec.upto fnValsSpec)) fnValsUptoCard
end Rows
end Go.Proofs.YtpmndefmibnaeaaDoor
