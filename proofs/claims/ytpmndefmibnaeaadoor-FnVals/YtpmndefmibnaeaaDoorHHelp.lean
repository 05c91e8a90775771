/-
  Contracts of the law's own helpers for heaps (slices of int and of accesses), for this seat's proofs. No statement is proved here.
-/
import Derived.Test.YtpmndefmibnaeaaDoorHMk
namespace Go.Proofs.YtpmndefmibnaeaaDoor.By
open Go.RowKit
set_option linter.unusedVariables false

end Go.Proofs.YtpmndefmibnaeaaDoor.By
