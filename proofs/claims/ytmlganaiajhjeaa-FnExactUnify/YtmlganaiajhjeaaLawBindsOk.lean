/-
  The walk of the exact law of BindsOk. No statement is proved here.
-/
import Derived.Test.YtmlganaiajhjeaaUI
import Derived.Test.YtmlganaiajhjeaaUH
import Derived.Test.YtmlganaiajhjeaaUC
namespace Go.Proofs.Ytmlganaiajhjeaa.By
open Go.RowKit
set_option linter.unusedVariables false
set_option linter.unusedSimpArgs false

theorem SlOB.cap {w : World} {t s : TypeId} {f : B} {a : Option Addr} {l c : Nat} {bs : List Nat} (h : SlOB w t s a l c f bs) : l ≤ c := h.2.2.1

end Go.Proofs.Ytmlganaiajhjeaa.By
