/-
  The law's own comparison of two trees that are the same, for this seat's proofs. No statement is proved here.
-/
import Derived.Test.YtpmndefmibnaeaaDoorTHelp
import Derived.Deep.RegionHeld
namespace Go.Proofs.YtpmndefmibnaeaaDoor.By
open Go.RowKit
set_option linter.unusedVariables false
set_option linter.unusedSimpArgs false

/-- Three cells from off on. -/
def Tri (b off : Nat) (v0 v1 v2 : Value) (w : World) : Prop := w.cell? ⟨b, off, none⟩ = some v0 ∧ w.cell? ⟨b, off + 1, none⟩ = some v1 ∧ w.cell? ⟨b, off + 2, none⟩ = some v2
theorem Tri.none {b off : Nat} {v0 v1 v2 : Value} {w w' : World} (h : Tri b off v0 v1 v2 w) (hg : w.grownBy w' Option.none) : Tri b off v0 v1 v2 w' :=
  ⟨hg.cell h.1 (by simp), hg.cell h.2.1 (by simp), hg.cell h.2.2 (by simp)⟩

end Go.Proofs.YtpmndefmibnaeaaDoor.By
