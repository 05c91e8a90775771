/-
  The specification's TyRead, by its contract. No statement is proved here.
-/
import Derived.Test.YtjchjdcaampghaaDoorTRdS
import Derived.Test.YtjchjdcaampghaaDoorTOk
namespace Go.Proofs.YtjchjdcaampghaaDoor.By
open Go.RowKit
set_option linter.unusedVariables false
set_option linter.unusedSimpArgs false

end Go.Proofs.YtjchjdcaampghaaDoor.By
