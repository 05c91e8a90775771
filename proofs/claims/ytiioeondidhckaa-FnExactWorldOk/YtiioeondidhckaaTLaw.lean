/-
  What the law's own helpers for trees do, in one line each. No statement is proved here.
-/
import Derived.Test.YtiioeondidhckaaTCopy
import Derived.Test.YtiioeondidhckaaTEq
namespace Go.Proofs.Ytiioeondidhckaa.By
open Go.RowKit
set_option linter.unusedVariables false

end Go.Proofs.Ytiioeondidhckaa.By
