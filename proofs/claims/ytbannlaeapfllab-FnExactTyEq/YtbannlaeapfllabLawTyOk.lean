/-
  The walks of laws.FnExactTyOk and laws.FnExactTySize. No statement is proved here.
-/
import Derived.Test.YtbannlaeapfllabTSize
import Derived.Test.YtbannlaeapfllabTLaw
namespace Go.Proofs.Ytbannlaeapfllab.By
open Go.RowKit
set_option linter.unusedVariables false
set_option linter.unusedSimpArgs false

end Go.Proofs.Ytbannlaeapfllab.By
