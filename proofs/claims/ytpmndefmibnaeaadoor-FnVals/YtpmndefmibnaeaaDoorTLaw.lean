/-
  What the law's own helpers for trees do, in one line each. No statement is proved here.
-/
import Derived.Test.YtpmndefmibnaeaaDoorTCopy
import Derived.Test.YtpmndefmibnaeaaDoorTEq
namespace Go.Proofs.YtpmndefmibnaeaaDoor.By
open Go.RowKit
set_option linter.unusedVariables false

end Go.Proofs.YtpmndefmibnaeaaDoor.By
