/-
  Several texts in one (HHelp, GQ, SBa). No statement is proved here.
-/
import Derived.Test.YtaecnhmegdeicaaDoorHMk
import Derived.Test.YtaecnhmegdeicaaDoorGI
import Derived.Test.YtaecnhmegdeicaaDoorEEq
import Derived.Test.YtaecnhmegdeicaaDoorGSAlso
import Derived.Test.YtaecnhmegdeicaaDoorEC1
namespace Go.Proofs.YtaecnhmegdeicaaDoor.By
open Go.RowKit
set_option linter.unusedVariables false

end Go.Proofs.YtaecnhmegdeicaaDoor.By

namespace Go.Proofs.YtaecnhmegdeicaaDoor.By
open Go.RowKit
set_option linter.unusedVariables false
set_option linter.unusedSimpArgs false

end Go.Proofs.YtaecnhmegdeicaaDoor.By

namespace Go.Proofs.YtaecnhmegdeicaaDoor.By
open Go.RowKit
set_option linter.unusedVariables false
set_option linter.unusedSimpArgs false

end Go.Proofs.YtaecnhmegdeicaaDoor.By
