/-
  The specification's GetNum answers what the plain function getNum does. No statement is proved here.
-/
import Derived.Test.YtjchjdcaampghaaDoorGetP
namespace Go.Proofs.YtjchjdcaampghaaDoor.By
open Go.RowKit
set_option linter.unusedVariables false

end Go.Proofs.YtjchjdcaampghaaDoor.By
