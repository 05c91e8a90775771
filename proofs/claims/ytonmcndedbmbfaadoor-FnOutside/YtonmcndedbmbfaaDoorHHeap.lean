/-
  Contracts of the law's own helpers for whole heaps, for this seat's proofs. No statement is proved here.
-/
import Derived.Test.YtonmcndedbmbfaaDoorHAcc
namespace Go.Proofs.YtonmcndedbmbfaaDoor.By
open Go.RowKit
set_option linter.unusedVariables false

end Go.Proofs.YtonmcndedbmbfaaDoor.By
