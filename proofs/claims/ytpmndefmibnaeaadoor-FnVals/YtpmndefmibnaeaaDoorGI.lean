/-
  Rows of whole numbers that are read, for this seat's proofs. No statement is proved here.
-/
import Derived.Test.YtpmndefmibnaeaaDoorHBase
import Derived.Test.YtpmndefmibnaeaaDoorEB
namespace Go.Proofs.YtpmndefmibnaeaaDoor.By
open Go.RowKit
set_option linter.unusedVariables false

/-- A row of whole numbers that is read. -/
def RdI (w : World) (a : Option Addr) (n : Nat) (zs : List Int) : Prop := ReadsI w a n zs ∧ n ≤ 9223372036854775807
theorem RdI.le {w u : World} {a : Option Addr} {n : Nat} {zs : List Int} (h : RdI w a n zs) (k : CLe w u) : RdI u a n zs := by
  obtain ⟨⟨h1, h2⟩, h3⟩ := h
  refine ⟨⟨h1, ?_⟩, h3⟩
  rcases h2 with h2 | ⟨b, o, e, h2⟩
  · exact .inl h2
  · exact .inr ⟨b, o, e, fun i hi => k _ _ (h2 i hi)⟩
theorem RdI.none {w u : World} {a : Option Addr} {n : Nat} {zs : List Int} (h : RdI w a n zs) (k : w.grownBy u Option.none) : RdI u a n zs := h.le (CLe.grown k)
end Go.Proofs.YtpmndefmibnaeaaDoor.By
