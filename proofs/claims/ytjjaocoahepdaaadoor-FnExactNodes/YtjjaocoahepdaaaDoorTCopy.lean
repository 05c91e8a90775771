/-
  The law's own copy of a tree by its contract, for this seat's proofs. No statement is proved here.
-/
import Derived.Test.YtjjaocoahepdaaaDoorTHelpAlso
import Derived.Test.YtjjaocoahepdaaaDoorTOwn
namespace Go.Proofs.YtjjaocoahepdaaaDoor.By
open Go.RowKit
set_option linter.unusedVariables false

end Go.Proofs.YtjjaocoahepdaaaDoor.By
