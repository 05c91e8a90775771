/-
  What the law's own helpers for trees do, in one line each. No statement is proved here.
-/
import Derived.Test.YtmjbnalhimhgnaaDoorTCopy
import Derived.Test.YtmjbnalhimhgnaaDoorTEq
namespace Go.Proofs.YtmjbnalhimhgnaaDoor.By
open Go.RowKit
set_option linter.unusedVariables false

end Go.Proofs.YtmjbnalhimhgnaaDoor.By
