/-
  The law's own copy of a tree by its contract, for this seat's proofs. No statement is proved here.
-/
import Derived.Test.YtpmndefmibnaeaaDoorTHelp
import Derived.Test.YtpmndefmibnaeaaDoorTOwn
namespace Go.Proofs.YtpmndefmibnaeaaDoor.By
open Go.RowKit
set_option linter.unusedVariables false

end Go.Proofs.YtpmndefmibnaeaaDoor.By
