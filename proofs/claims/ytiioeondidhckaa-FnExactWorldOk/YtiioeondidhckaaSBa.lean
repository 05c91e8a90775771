/-
  Lists of trees as parts of structs: how great, copied. No statement is proved here.
-/
import Derived.Test.YtiioeondidhckaaGS
import Derived.Test.YtiioeondidhckaaGQ
import Derived.Test.YtiioeondidhckaaEC1
namespace Go.Proofs.Ytiioeondidhckaa.By
open Go.RowKit
set_option linter.unusedVariables false
set_option linter.unusedSimpArgs false

end Go.Proofs.Ytiioeondidhckaa.By
