/-
  Two rows of whole numbers that read the same, compared: by its contract. No statement is proved here.
-/
import Derived.Test.YtpmndefmibnaeaaDoorGI
import Derived.Test.YtpmndefmibnaeaaDoorHHelp
import Derived.Test.YtpmndefmibnaeaaDoorEEq
import Derived.Test.YtpmndefmibnaeaaDoorTLaw
namespace Go.Proofs.YtpmndefmibnaeaaDoor.By
open Go.RowKit
set_option linter.unusedVariables false
set_option linter.unusedSimpArgs false

end Go.Proofs.YtpmndefmibnaeaaDoor.By
