/-
  Contracts of the law's own helpers (toByteS, eqByteS, markByteS, heldByteS) for this seat's proofs. No statement is proved here.
-/
import Derived.Test.YtjchjdcaampghaaDoorMk
namespace Go.Proofs.YtjchjdcaampghaaDoor.By
open Go.RowKit
set_option linter.unusedVariables false

end Go.Proofs.YtjchjdcaampghaaDoor.By
