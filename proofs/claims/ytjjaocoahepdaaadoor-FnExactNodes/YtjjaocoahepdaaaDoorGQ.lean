/-
  Two rows of whole numbers that read the same, compared: by its contract. No statement is proved here.
-/
import Derived.Test.YtjjaocoahepdaaaDoorGI
import Derived.Test.YtjjaocoahepdaaaDoorHHelpAlso
import Derived.Test.YtjjaocoahepdaaaDoorEEq
import Derived.Test.YtjjaocoahepdaaaDoorGSAlso
namespace Go.Proofs.YtjjaocoahepdaaaDoor.By
open Go.RowKit
set_option linter.unusedVariables false
set_option linter.unusedSimpArgs false

end Go.Proofs.YtjjaocoahepdaaaDoor.By
