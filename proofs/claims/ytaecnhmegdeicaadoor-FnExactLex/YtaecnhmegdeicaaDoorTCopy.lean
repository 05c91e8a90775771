/-
  The law's own copy of a tree by its contract, for this seat's proofs. No statement is proved here.
-/
import Derived.Test.YtaecnhmegdeicaaDoorTHelp
import Derived.Test.YtaecnhmegdeicaaDoorTOwn
namespace Go.Proofs.YtaecnhmegdeicaaDoor.By
open Go.RowKit
set_option linter.unusedVariables false

end Go.Proofs.YtaecnhmegdeicaaDoor.By
