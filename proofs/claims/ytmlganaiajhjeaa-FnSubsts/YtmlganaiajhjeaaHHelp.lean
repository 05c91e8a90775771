/-
  Contracts of the law's own helpers for heaps (slices of int and of accesses), for this seat's proofs. No statement is proved here.
-/
import Derived.Test.YtmlganaiajhjeaaHMk
namespace Go.Proofs.Ytmlganaiajhjeaa.By
open Go.RowKit
set_option linter.unusedVariables false

end Go.Proofs.Ytmlganaiajhjeaa.By
