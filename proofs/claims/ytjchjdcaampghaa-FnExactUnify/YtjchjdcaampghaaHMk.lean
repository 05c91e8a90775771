/-
  What 'make' does for whole numbers and for accesses, for this seat's proofs. No statement is proved here.
-/
import Derived.Test.YtjchjdcaampghaaRows
import Derived.Test.YtjchjdcaampghaaHBase
import Derived.WalkKit
import Derived.ProofKit
import Derived.WalkSpells
import Derived.RegionTactic
import Derived.Deep.QuietTactic
import Derived.BigQuiet
namespace Go.Proofs.Ytjchjdcaampghaa.By
open Go.RowKit
set_option linter.unusedVariables false

end Go.Proofs.Ytjchjdcaampghaa.By
