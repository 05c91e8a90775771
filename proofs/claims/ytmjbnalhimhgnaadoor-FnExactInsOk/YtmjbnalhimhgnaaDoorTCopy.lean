/-
  The law's own copy of a tree by its contract, for this seat's proofs. No statement is proved here.
-/
import Derived.Test.YtmjbnalhimhgnaaDoorTHelp
import Derived.Test.YtmjbnalhimhgnaaDoorTOwn
namespace Go.Proofs.YtmjbnalhimhgnaaDoor.By
open Go.RowKit
set_option linter.unusedVariables false

end Go.Proofs.YtmjbnalhimhgnaaDoor.By
