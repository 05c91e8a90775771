/-
  What 'make' does for whole numbers and for accesses, for this seat's proofs. No statement is proved here.
-/
import Derived.Test.YtmlganaiajhjeaaRows
import Derived.Test.YtmlganaiajhjeaaHBase
import Derived.WalkKit
import Derived.ProofKit
import Derived.WalkSpells
import Derived.RegionTactic
import Derived.Deep.QuietTactic
import Derived.BigQuiet
namespace Go.Proofs.Ytmlganaiajhjeaa.By
open Go.RowKit
set_option linter.unusedVariables false

end Go.Proofs.Ytmlganaiajhjeaa.By
