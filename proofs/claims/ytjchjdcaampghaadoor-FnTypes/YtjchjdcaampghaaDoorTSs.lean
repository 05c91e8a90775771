/-
  The specification's text of a tree, by its contract. No statement is proved here.
-/
import Derived.Test.YtjchjdcaampghaaDoorTSm
import Derived.Deep.DeepCutAuto
import Derived.Deep.CutBlock
namespace Go.Proofs.YtjchjdcaampghaaDoor.By
open Go.RowKit
set_option linter.unusedVariables false
set_option linter.unusedSimpArgs false









end Go.Proofs.YtjchjdcaampghaaDoor.By
