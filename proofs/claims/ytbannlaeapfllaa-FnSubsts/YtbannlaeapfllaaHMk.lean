/-
  What 'make' does for whole numbers and for accesses, for this seat's proofs. No statement is proved here.
-/
import Derived.Test.YtbannlaeapfllaaRows
import Derived.Test.YtbannlaeapfllaaHBase
import Derived.WalkKit
import Derived.ProofKit
import Derived.WalkSpells
import Derived.RegionTactic
import Derived.Deep.QuietTactic
import Derived.BigQuiet
namespace Go.Proofs.Ytbannlaeapfllaa.By
open Go.RowKit
set_option linter.unusedVariables false

end Go.Proofs.Ytbannlaeapfllaa.By
