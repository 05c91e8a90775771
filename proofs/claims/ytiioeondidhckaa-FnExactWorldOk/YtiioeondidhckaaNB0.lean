/-
  Whole numbers and literals: the program's own by their contracts. No statement is proved here.
-/
import Derived.Test.YtiioeondidhckaaEC0
import Derived.Test.YtiioeondidhckaaTHelp
namespace Go.Proofs.Ytiioeondidhckaa.By
open Go.RowKit
set_option linter.unusedVariables false
set_option linter.unusedSimpArgs false

def AtP (b : Bool) (r : Int) : Prop := if b = true then 0 ≤ r else r = -1

/-- What is left of a row of bytes from place j on. -/
def DrB (w : World) (b o : Nat) (R : List Int) : Prop := ∀ i, i < R.length → w.cell? ⟨b, o + i, none⟩ = some (.int .u8 (R.getD i 0))
theorem DrB.le {w u : World} {b o : Nat} {R : List Int} (h : DrB w b o R) (k : CLe w u) : DrB u b o R := fun i hi => k _ _ (h i hi)
theorem DrB.tl {w : World} {b o : Nat} {z : Int} {R : List Int} (h : DrB w b o (z :: R)) : w.cell? ⟨b, o, none⟩ = some (.int .u8 z) ∧ DrB w b (o + 1) R := by
  refine ⟨by simpa using h 0 (by simp), fun i hi => ?_⟩
  have := h (i + 1) (by simp; omega)
  rw [show o + 1 + i = o + (i + 1) by omega]; simpa using this

end Go.Proofs.Ytiioeondidhckaa.By
