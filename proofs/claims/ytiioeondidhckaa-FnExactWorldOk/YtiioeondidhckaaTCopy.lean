/-
  The law's own copy of a tree by its contract, for this seat's proofs. No statement is proved here.
-/
import Derived.Test.YtiioeondidhckaaTHelp
import Derived.Test.YtiioeondidhckaaTOwn
namespace Go.Proofs.Ytiioeondidhckaa.By
open Go.RowKit
set_option linter.unusedVariables false

end Go.Proofs.Ytiioeondidhckaa.By
